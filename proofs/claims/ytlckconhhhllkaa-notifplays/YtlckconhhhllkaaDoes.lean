/-
  The program's table and the document's, side by side; one call at both.
-/
import Derived.Test.YtlckconhhhllkaaIfc
import Derived.Test.YtlckconhhhllkaaEq
import Derived.Test.YtlckconhhhllkaaREnd
import Derived.Test.YtlckconhhhllkaaRSame
import Derived.Deep.DeepCutAuto
namespace Go.Proofs.Ytlckconhhhllkaa
open Go.RowKit

/-- both, and the law's own box. -/
structure Bo (F : World → World → Nat → Nt → Prop) (w X : World) (p br base ob : Nat) (d n z k v : Int) (s r : Nt) : Prop where
  f : F w X p s
  r : RfT X base br r
  o : Blk X ob 37 [.int .i64 d, .int .i64 n, .int .u64 z, .int .i64 k, .int .i64 v]
  b : w.heap.size ≤ base
  z : base ≤ X.heap.size
/-- what the law's does tells and leaves. -/
def DoesT (F : World → World → Nat → Nt → Prop) (w : World) (p br base : Nat) (e : Ending) (w' : World) : Prop := e = .returned (.bool true) ∧ ∃ s', F w w' p s' ∧ RfT w' base br s'
section
variable {F : World → World → Nat → Nt → Prop} {w W X X' : World} {p br base ob : Nat} {d n z k v : Int} {s r s' r' : Nt}
theorem bo_new (I : Ifc F) (hF : F w W p s) (hR : RfT W base br s) (hb : w.heap.size ≤ base) : Bo F w (W.alloc (.cells #[.int .i64 d, .int .i64 n, .int .u64 z, .int .i64 k, .int .i64 v] 37)) p br base W.heap.size d n z k v s s :=
  ⟨I.over hF (below_new W _), hR.over (below_new W _), blk_new W _ _, hb, by obtain ⟨_, h⟩ := hR; have h1 := h.bb; have h2 := h.blk.lt; have h3 := (below_new W (.cells #[.int .i64 d, .int .i64 n, .int .u64 z, .int .i64 k, .int .i64 v] 37)).size; omega⟩
theorem Bo.prog (h : Bo F w X p br base ob d n z k v s r) (hf : F w X' p s') (hc : Fc [62] w.heap.size X X') : Bo F w X' p br base ob d n z k v s' r :=
  ⟨hf, h.r.fc hc (by simp) (by simp), h.o.fc hc (by simp), h.b, Nat.le_trans h.z hc.bel.size⟩
theorem Bo.doc (I : Ifc F) (h : Bo F w X p br base ob d n z k v s r) (hr : RfT X' base br r') (hf : Fr [44, 41] [] base X X') : Bo F w X' p br base ob d n z k v s r' :=
  ⟨I.frr h.f ⟨hf.bel.mono h.b, hf.blk⟩ (by simp), hr, h.o.fr hf (by simp) (by simp), h.b, Nat.le_trans h.z hf.bel.size⟩
theorem tickO_len (s : Nt) : (tickO s).length ≤ s.L.length := by unfold tickO; rw [List.length_map]; exact List.length_filter_le ..
theorem Bo.over (I : Ifc F) (h : Bo F w X p br base ob d n z k v s r) (hb : Below X.heap.size X X') : Bo F w X' p br base ob d n z k v s r := ⟨I.over h.f hb, h.r.over hb, h.o.over hb, h.b, Nat.le_trans h.z hb.size⟩

set_option maxHeartbeats 8000000 in
set_option maxRecDepth 8000 in
theorem does_rise (I : Ifc F) (hF : F w W p s) (hR : RfT W base br s) (hb : w.heap.size ≤ base) (hU : U64 z) (hd : d = 7) : Calls Try.prog 11 #[.pointer (some ⟨p, 0, none⟩), .pointer (some ⟨br, 0, none⟩), .agg #[.int .i64 d, .int .i64 n, .int .u64 z, .int .i64 k, .int .i64 v]] W fun e w' => DoesT F w p br base e w' := by
  have HD : Hid (Bo F w (W.alloc (.cells #[.int .i64 d, .int .i64 n, .int .u64 z, .int .i64 k, .int .i64 v] 37)) p br base W.heap.size d n z k v s s) := bo_new I hF hR hb
  have HU : Hid (U64 z) := hU
  have HO : Hid (Ok s) := I.ok hF
  have hn0 : (d == 0) = false := by simp; omega
  have hn1 : (d == 1) = false := by simp; omega
  have hn2 : (d == 2) = false := by simp; omega
  have hn3 : (d == 3) = false := by simp; omega
  have hn4 : (d == 4) = false := by simp; omega
  have hn5 : (d == 5) = false := by simp; omega
  have hn6 : (d == 6) = false := by simp; omega
  have hy : (d == 7) = true := by simp [hd]
  clear hF hR hb hU hd
  go_enter Try.func11, Try.ntmps11
  go_upto_region 1 with fail
  generalize (W.alloc (.cells #[.int .i64 d, .int .i64 n, .int .u64 z, .int .i64 k, .int .i64 v] 37)) = W1 at *
  generalize W.heap.size = ob at *
  have y0 := HD.out.o.cell 0
  go_wp2_with fail
  have HDD : Hid (Bo F w W1.drew p br base ob d n z k v s s) := HD.out.over I (Below.refl _ _).drew
  replace HD := HDD
  clear HDD y0
  refine wp_region_late (E := []) (S := (fun X => Blk X ob 37 [.int .i64 d, .int .i64 n, .int .u64 z, .int .i64 k, .int .i64 v])) (by kernel_rfl) (HD.out.o) (fun hHeld => ?_)
  simp only [List.size_toArray, List.length_cons, List.length_nil, Nat.reduceAdd]
  generalize W1.drew = wd at *
  refine wpAnyL_take [3, 8, 9] (i := 0) (v := ?_) (by kernel_rfl) (by kernel_rfl) (by kernel_rfl) rfl (by kernel_rfl) (by kernel_rfl) (by kernel_rfl) (fun _ _ _ h => h) (Or.inl ⟨by rfl, ?_⟩) hHeld ?_
  rotate_left
  · (intro w hSw; (try dsimp only at hSw); go_simp; try with_reducible rfl)
  try simp only [Act.put, List.setIfInBounds_toArray, List.set_cons_zero, List.set_cons_succ, List.getElem_toArray, List.getElem_cons_zero]
  refine wpAnyL_take [2, 3, 8, 9] (i := 1) (v := ?_) (by kernel_rfl) (by kernel_rfl) (by kernel_rfl) rfl (by kernel_rfl) (by kernel_rfl) (by kernel_rfl) (fun _ _ _ h => h) (Or.inl ⟨by rfl, ?_⟩) hHeld ?_
  rotate_left
  · (intro w hSw; (try dsimp only at hSw); go_simp; try with_reducible rfl)
  try simp only [Act.put, List.setIfInBounds_toArray, List.set_cons_zero, List.set_cons_succ, List.getElem_toArray, List.getElem_cons_zero, List.getElem_cons_succ]
  refine wpAnyL_take [3, 8, 9] (i := 2) (v := ?_) (by kernel_rfl) (by kernel_rfl) (by kernel_rfl) rfl (by kernel_rfl) (by kernel_rfl) (by kernel_rfl) (fun _ _ _ h => h) (Or.inl ⟨by rfl, ?_⟩) hHeld ?_
  rotate_left
  · (intro w hSw; (try dsimp only at hSw); have hc := hSw.cell 2; go_simp; try with_reducible rfl)
  try simp only [Act.put, List.setIfInBounds_toArray, List.set_cons_zero, List.set_cons_succ, List.getElem_toArray, List.getElem_cons_zero, List.getElem_cons_succ]
  refine wpAnyL_take [7, 8, 9] (i := 4) (v := ?_) (by kernel_rfl) (by kernel_rfl) (by kernel_rfl) rfl (by kernel_rfl) (by kernel_rfl) (by kernel_rfl) (fun _ _ _ h => h) (Or.inl ⟨by rfl, ?_⟩) hHeld ?_
  rotate_left
  · (intro w hSw; (try dsimp only at hSw); go_simp; try with_reducible rfl)
  try simp only [Act.put, List.setIfInBounds_toArray, List.set_cons_zero, List.set_cons_succ, List.getElem_toArray, List.getElem_cons_zero, List.getElem_cons_succ]
  refine wpAnyL_take [6, 7, 8, 9] (i := 5) (v := ?_) (by kernel_rfl) (by kernel_rfl) (by kernel_rfl) rfl (by kernel_rfl) (by kernel_rfl) (by kernel_rfl) (fun _ _ _ h => h) (Or.inl ⟨by rfl, ?_⟩) hHeld ?_
  rotate_left
  · (intro w hSw; (try dsimp only at hSw); go_simp; try with_reducible rfl)
  try simp only [Act.put, List.setIfInBounds_toArray, List.set_cons_zero, List.set_cons_succ, List.getElem_toArray, List.getElem_cons_zero, List.getElem_cons_succ]
  refine wpAnyL_take [7, 8, 9] (i := 6) (v := ?_) (by kernel_rfl) (by kernel_rfl) (by kernel_rfl) rfl (by kernel_rfl) (by kernel_rfl) (by kernel_rfl) (fun _ _ _ h => h) (Or.inl ⟨by rfl, ?_⟩) hHeld ?_
  rotate_left
  · (intro w hSw; (try dsimp only at hSw); have hc := hSw.cell 2; go_simp; try with_reducible rfl)
  try simp only [Act.put, List.setIfInBounds_toArray, List.set_cons_zero, List.set_cons_succ, List.getElem_toArray, List.getElem_cons_zero, List.getElem_cons_succ]
  refine wpAnyL_one (i := 3) (by kernel_rfl) rfl (fun K hK => ?_)
  go_simp
  go_at_call 18
  refine (I.rise (ep := z) HU.out HD.out.f).mono ?_
  rintro e w5 ⟨rfl, h5, f5⟩
  have HD5 : Hid (Bo F w w5 p br base ob d n z k v _ s) := HD.out.prog h5 f5
  have s1 : Blk w5 ob 37 [.int .i64 d, .int .i64 n, .int .u64 z, .int .i64 k, .int .i64 v] := HD5.out.o
  clear h5 f5
  refine hK.out _ _ (fun _ => s1) ?_
  replace hHeld := s1
  clear hK K
  try simp only [Act.put, List.setIfInBounds_toArray, List.set_cons_zero, List.set_cons_succ, List.getElem_toArray, List.getElem_cons_zero, List.getElem_cons_succ]
  refine wpAnyL_one (i := 7) (by kernel_rfl) rfl (fun K hK => ?_)
  go_simp
  go_at_call 30
  refine (rrise_any w5 base br s z HD5.out.r (by have := HO.out.len; have := HO.out.z1; omega) HD5.out.z).mono ?_
  rintro e w6 ⟨rfl, h6, f6⟩
  have HD6 : Hid (Bo F w w6 p br base ob d n z k v _ _) := HD5.out.doc I h6 f6
  have s2 : Blk w6 ob 37 [.int .i64 d, .int .i64 n, .int .u64 z, .int .i64 k, .int .i64 v] := HD6.out.o
  clear h6 f6 HD5
  generalize riseE s z = er at *
  have e1 : (er == er) = true := by simp
  refine hK.out _ _ (fun _ => s2) ?_
  replace hHeld := s2
  clear hK K
  try simp only [Act.put, List.setIfInBounds_toArray, List.set_cons_zero, List.set_cons_succ, List.getElem_toArray, List.getElem_cons_zero, List.getElem_cons_succ]
  refine wpAnyL_take [9] (i := 8) (v := ?_) (by kernel_rfl) (by kernel_rfl) (by kernel_rfl) rfl (by kernel_rfl) (by kernel_rfl) (by kernel_rfl) (fun _ _ _ h => h) (Or.inl ⟨by rfl, ?_⟩) hHeld ?_
  rotate_left
  · (intro w hSw; (try dsimp only at hSw); go_simp; try with_reducible rfl)
  try simp only [Act.put, List.setIfInBounds_toArray, List.set_cons_zero, List.set_cons_succ, List.getElem_toArray, List.getElem_cons_zero, List.getElem_cons_succ]
  refine wpAnyL_take [] (i := 9) (v := ?_) (by kernel_rfl) (by kernel_rfl) (by kernel_rfl) rfl (by kernel_rfl) (by kernel_rfl) (by kernel_rfl) (fun _ _ _ h => h) (Or.inl ⟨by rfl, ?_⟩) hHeld ?_
  rotate_left
  · (intro w hSw; (try dsimp only at hSw); go_simp; try with_reducible rfl)
  try simp only [Act.put, List.setIfInBounds_toArray, List.set_cons_zero, List.set_cons_succ, List.getElem_toArray, List.getElem_cons_zero, List.getElem_cons_succ]
  refine wpAnyL_done (by kernel_rfl) ?_ _
  go_wp2_with fail
  go_ret
  exact ⟨rfl, _, HD6.out.f, HD6.out.r⟩

set_option maxHeartbeats 8000000 in
set_option maxRecDepth 8000 in
theorem does_kill (I : Ifc F) (hF : F w W p s) (hR : RfT W base br s) (hb : w.heap.size ≤ base) (hU : U64 z) (hd : d = 5) : Calls Try.prog 11 #[.pointer (some ⟨p, 0, none⟩), .pointer (some ⟨br, 0, none⟩), .agg #[.int .i64 d, .int .i64 n, .int .u64 z, .int .i64 k, .int .i64 v]] W fun e w' => DoesT F w p br base e w' := by
  have HD : Hid (Bo F w (W.alloc (.cells #[.int .i64 d, .int .i64 n, .int .u64 z, .int .i64 k, .int .i64 v] 37)) p br base W.heap.size d n z k v s s) := bo_new I hF hR hb
  have HU : Hid (U64 z) := hU
  have HO : Hid (Ok s) := I.ok hF
  have hn0 : (d == 0) = false := by simp; omega
  have hn1 : (d == 1) = false := by simp; omega
  have hn2 : (d == 2) = false := by simp; omega
  have hn3 : (d == 3) = false := by simp; omega
  have hn4 : (d == 4) = false := by simp; omega
  have hy : (d == 5) = true := by simp [hd]
  clear hF hR hb hU hd
  go_enter Try.func11, Try.ntmps11
  go_upto_region 1 with fail
  generalize (W.alloc (.cells #[.int .i64 d, .int .i64 n, .int .u64 z, .int .i64 k, .int .i64 v] 37)) = W1 at *
  generalize W.heap.size = ob at *
  have y0 := HD.out.o.cell 0
  go_wp2_with fail
  have HDD : Hid (Bo F w W1.drew p br base ob d n z k v s s) := HD.out.over I (Below.refl _ _).drew
  replace HD := HDD
  clear HDD y0
  refine wp_region_late (E := []) (S := (fun X => Blk X ob 37 [.int .i64 d, .int .i64 n, .int .u64 z, .int .i64 k, .int .i64 v])) (by kernel_rfl) (HD.out.o) (fun hHeld => ?_)
  simp only [List.size_toArray, List.length_cons, List.length_nil, Nat.reduceAdd]
  generalize W1.drew = wd at *
  refine wpAnyL_take [3, 8, 9] (i := 0) (v := ?_) (by kernel_rfl) (by kernel_rfl) (by kernel_rfl) rfl (by kernel_rfl) (by kernel_rfl) (by kernel_rfl) (fun _ _ _ h => h) (Or.inl ⟨by rfl, ?_⟩) hHeld ?_
  rotate_left
  · (intro w hSw; (try dsimp only at hSw); go_simp; try with_reducible rfl)
  try simp only [Act.put, List.setIfInBounds_toArray, List.set_cons_zero, List.set_cons_succ, List.getElem_toArray, List.getElem_cons_zero]
  refine wpAnyL_take [2, 3, 8, 9] (i := 1) (v := ?_) (by kernel_rfl) (by kernel_rfl) (by kernel_rfl) rfl (by kernel_rfl) (by kernel_rfl) (by kernel_rfl) (fun _ _ _ h => h) (Or.inl ⟨by rfl, ?_⟩) hHeld ?_
  rotate_left
  · (intro w hSw; (try dsimp only at hSw); go_simp; try with_reducible rfl)
  try simp only [Act.put, List.setIfInBounds_toArray, List.set_cons_zero, List.set_cons_succ, List.getElem_toArray, List.getElem_cons_zero, List.getElem_cons_succ]
  refine wpAnyL_take [3, 8, 9] (i := 2) (v := ?_) (by kernel_rfl) (by kernel_rfl) (by kernel_rfl) rfl (by kernel_rfl) (by kernel_rfl) (by kernel_rfl) (fun _ _ _ h => h) (Or.inl ⟨by rfl, ?_⟩) hHeld ?_
  rotate_left
  · (intro w hSw; (try dsimp only at hSw); have hc := hSw.cell 1; go_simp; try with_reducible rfl)
  try simp only [Act.put, List.setIfInBounds_toArray, List.set_cons_zero, List.set_cons_succ, List.getElem_toArray, List.getElem_cons_zero, List.getElem_cons_succ]
  refine wpAnyL_take [7, 8, 9] (i := 4) (v := ?_) (by kernel_rfl) (by kernel_rfl) (by kernel_rfl) rfl (by kernel_rfl) (by kernel_rfl) (by kernel_rfl) (fun _ _ _ h => h) (Or.inl ⟨by rfl, ?_⟩) hHeld ?_
  rotate_left
  · (intro w hSw; (try dsimp only at hSw); go_simp; try with_reducible rfl)
  try simp only [Act.put, List.setIfInBounds_toArray, List.set_cons_zero, List.set_cons_succ, List.getElem_toArray, List.getElem_cons_zero, List.getElem_cons_succ]
  refine wpAnyL_take [6, 7, 8, 9] (i := 5) (v := ?_) (by kernel_rfl) (by kernel_rfl) (by kernel_rfl) rfl (by kernel_rfl) (by kernel_rfl) (by kernel_rfl) (fun _ _ _ h => h) (Or.inl ⟨by rfl, ?_⟩) hHeld ?_
  rotate_left
  · (intro w hSw; (try dsimp only at hSw); go_simp; try with_reducible rfl)
  try simp only [Act.put, List.setIfInBounds_toArray, List.set_cons_zero, List.set_cons_succ, List.getElem_toArray, List.getElem_cons_zero, List.getElem_cons_succ]
  refine wpAnyL_take [7, 8, 9] (i := 6) (v := ?_) (by kernel_rfl) (by kernel_rfl) (by kernel_rfl) rfl (by kernel_rfl) (by kernel_rfl) (by kernel_rfl) (fun _ _ _ h => h) (Or.inl ⟨by rfl, ?_⟩) hHeld ?_
  rotate_left
  · (intro w hSw; (try dsimp only at hSw); have hc := hSw.cell 1; go_simp; try with_reducible rfl)
  try simp only [Act.put, List.setIfInBounds_toArray, List.set_cons_zero, List.set_cons_succ, List.getElem_toArray, List.getElem_cons_zero, List.getElem_cons_succ]
  refine wpAnyL_one (i := 3) (by kernel_rfl) rfl (fun K hK => ?_)
  go_simp
  go_at_call 26
  refine (I.kill (t := n) HD.out.f).mono ?_
  rintro e w5 ⟨rfl, h5, f5⟩
  have HD5 : Hid (Bo F w w5 p br base ob d n z k v _ s) := HD.out.prog h5 f5
  have s1 : Blk w5 ob 37 [.int .i64 d, .int .i64 n, .int .u64 z, .int .i64 k, .int .i64 v] := HD5.out.o
  clear h5 f5
  refine hK.out _ _ (fun _ => s1) ?_
  replace hHeld := s1
  clear hK K
  try simp only [Act.put, List.setIfInBounds_toArray, List.set_cons_zero, List.set_cons_succ, List.getElem_toArray, List.getElem_cons_zero, List.getElem_cons_succ]
  refine wpAnyL_one (i := 7) (by kernel_rfl) rfl (fun K hK => ?_)
  go_simp
  go_at_call 27
  refine (rkill_any w5 base br s n HD5.out.r HO.out HD5.out.z).mono ?_
  rintro e w6 ⟨rfl, h6, f6⟩
  have HD6 : Hid (Bo F w w6 p br base ob d n z k v _ _) := HD5.out.doc I h6 f6
  have s2 : Blk w6 ob 37 [.int .i64 d, .int .i64 n, .int .u64 z, .int .i64 k, .int .i64 v] := HD6.out.o
  clear h6 f6 HD5
  generalize killB s n = er at *
  have e1 : (er == er) = true := by simp
  refine hK.out _ _ (fun _ => s2) ?_
  replace hHeld := s2
  clear hK K
  try simp only [Act.put, List.setIfInBounds_toArray, List.set_cons_zero, List.set_cons_succ, List.getElem_toArray, List.getElem_cons_zero, List.getElem_cons_succ]
  refine wpAnyL_take [9] (i := 8) (v := ?_) (by kernel_rfl) (by kernel_rfl) (by kernel_rfl) rfl (by kernel_rfl) (by kernel_rfl) (by kernel_rfl) (fun _ _ _ h => h) (Or.inl ⟨by rfl, ?_⟩) hHeld ?_
  rotate_left
  · (intro w hSw; (try dsimp only at hSw); go_simp; try with_reducible rfl)
  try simp only [Act.put, List.setIfInBounds_toArray, List.set_cons_zero, List.set_cons_succ, List.getElem_toArray, List.getElem_cons_zero, List.getElem_cons_succ]
  refine wpAnyL_take [] (i := 9) (v := ?_) (by kernel_rfl) (by kernel_rfl) (by kernel_rfl) rfl (by kernel_rfl) (by kernel_rfl) (by kernel_rfl) (fun _ _ _ h => h) (Or.inl ⟨by rfl, ?_⟩) hHeld ?_
  rotate_left
  · (intro w hSw; (try dsimp only at hSw); go_simp; try with_reducible rfl)
  try simp only [Act.put, List.setIfInBounds_toArray, List.set_cons_zero, List.set_cons_succ, List.getElem_toArray, List.getElem_cons_zero, List.getElem_cons_succ]
  refine wpAnyL_done (by kernel_rfl) ?_ _
  go_wp2_with fail
  go_ret
  exact ⟨rfl, _, HD6.out.f, HD6.out.r⟩

set_option maxHeartbeats 8000000 in
set_option maxRecDepth 8000 in
theorem does_drop (I : Ifc F) (hF : F w W p s) (hR : RfT W base br s) (hb : w.heap.size ≤ base) (hU : U64 z) (hd : d = 8) : Calls Try.prog 11 #[.pointer (some ⟨p, 0, none⟩), .pointer (some ⟨br, 0, none⟩), .agg #[.int .i64 d, .int .i64 n, .int .u64 z, .int .i64 k, .int .i64 v]] W fun e w' => DoesT F w p br base e w' := by
  have HD : Hid (Bo F w (W.alloc (.cells #[.int .i64 d, .int .i64 n, .int .u64 z, .int .i64 k, .int .i64 v] 37)) p br base W.heap.size d n z k v s s) := bo_new I hF hR hb
  have HU : Hid (U64 z) := hU
  have HO : Hid (Ok s) := I.ok hF
  have hn0 : (d == 0) = false := by simp; omega
  have hn1 : (d == 1) = false := by simp; omega
  have hn2 : (d == 2) = false := by simp; omega
  have hn3 : (d == 3) = false := by simp; omega
  have hn4 : (d == 4) = false := by simp; omega
  have hn5 : (d == 5) = false := by simp; omega
  have hn6 : (d == 6) = false := by simp; omega
  have hn7 : (d == 7) = false := by simp; omega
  have hy : (d == 8) = true := by simp [hd]
  clear hF hR hb hU hd
  go_enter Try.func11, Try.ntmps11
  go_upto_region 1 with fail
  generalize (W.alloc (.cells #[.int .i64 d, .int .i64 n, .int .u64 z, .int .i64 k, .int .i64 v] 37)) = W1 at *
  generalize W.heap.size = ob at *
  have y0 := HD.out.o.cell 0
  go_wp2_with fail
  refine (I.drop HD.out.f).mono ?_
  rintro e w5 ⟨rfl, h5, f5⟩
  have HD5 : Hid (Bo F w w5 p br base ob d n z k v _ s) := HD.out.prog h5 f5
  clear h5 f5 HD y0
  go_wp2_with fail
  refine (rdrop_any w5 base br s HD5.out.r (by have := HO.out.len; have := HO.out.z1; omega) HD5.out.z).mono ?_
  rintro e w6 ⟨rfl, h6, f6⟩
  have HD6 : Hid (Bo F w w6 p br base ob d n z k v _ _) := HD5.out.doc I h6 f6
  clear h6 f6 HD5
  go_wp2_with fail
  go_ret
  exact ⟨rfl, _, HD6.out.f, HD6.out.r⟩

set_option maxHeartbeats 8000000 in
set_option maxRecDepth 8000 in
theorem does_tick (I : Ifc F) (hF : F w W p s) (hR : RfT W base br s) (hb : w.heap.size ≤ base) (hU : U64 z) (hd : d = 6) : Calls Try.prog 11 #[.pointer (some ⟨p, 0, none⟩), .pointer (some ⟨br, 0, none⟩), .agg #[.int .i64 d, .int .i64 n, .int .u64 z, .int .i64 k, .int .i64 v]] W fun e w' => DoesT F w p br base e w' := by
  have HD : Hid (Bo F w (W.alloc (.cells #[.int .i64 d, .int .i64 n, .int .u64 z, .int .i64 k, .int .i64 v] 37)) p br base W.heap.size d n z k v s s) := bo_new I hF hR hb
  have HU : Hid (U64 z) := hU
  have HO : Hid (Ok s) := I.ok hF
  have hn0 : (d == 0) = false := by simp; omega
  have hn1 : (d == 1) = false := by simp; omega
  have hn2 : (d == 2) = false := by simp; omega
  have hn3 : (d == 3) = false := by simp; omega
  have hn4 : (d == 4) = false := by simp; omega
  have hn5 : (d == 5) = false := by simp; omega
  have hy : (d == 6) = true := by simp [hd]
  clear hF hR hb hU hd
  go_enter Try.func11, Try.ntmps11
  go_upto_region 1 with fail
  generalize (W.alloc (.cells #[.int .i64 d, .int .i64 n, .int .u64 z, .int .i64 k, .int .i64 v] 37)) = W1 at *
  generalize W.heap.size = ob at *
  have y0 := HD.out.o.cell 0
  go_wp2_with fail
  refine (I.tick HD.out.f).mono ?_
  rintro e w5 ⟨v5, hr5, rfl, h5, f5⟩
  have HD5 : Hid (Bo F w w5 p br base ob d n z k v (tickS s) s) := HD.out.prog h5 f5
  have HW5 : Hid (w5.ownsRow W1.heap.size 23 1 v5 (tickO s).length (cellsU (tickO s))) := hr5
  clear hr5 h5 f5 HD y0
  go_wp2_with fail
  refine (rtick_any w5 base br s HD5.out.r HO.out HD5.out.z).mono ?_
  rintro e w6 ⟨v6, rfl, hr6, h6, f6⟩
  have HD6 : Hid (Bo F w w6 p br base ob d n z k v (tickS s) (tickS s)) := HD5.out.doc I h6 f6
  have HW6 : Hid (w6.ownsRow W1.heap.size 23 1 v5 (tickO s).length (cellsU (tickO s)) ∧ w6.ownsRow w5.heap.size 23 1 v6 (tickO s).length (cellsU (tickO s))) := ⟨owns_fr HW5.out f6 (by simp) (fun _ _ => by simp), hr6⟩
  clear hr6 h6 f6 HD5 HW5
  go_wp2_with fail
  refine (rsame_any w6 _ _ _ _ (tickO s) HW6.out.1 HW6.out.2 (by have h1 := tickO_len s; have := HO.out.len; have := HO.out.z1; omega)).mono ?_
  rintro e w7 ⟨rfl, hb7⟩
  have HD7 : Hid (Bo F w w7 p br base ob d n z k v (tickS s) (tickS s)) := HD6.out.over I hb7
  clear hb7 HD6 HW6
  go_wp2_with fail
  go_ret
  exact ⟨rfl, _, HD7.out.f, HD7.out.r⟩

set_option maxHeartbeats 8000000 in
set_option maxRecDepth 8000 in
theorem does_add0 (I : Ifc F) (hF : F w W p s) (hR : RfT W base br s) (hb : w.heap.size ≤ base) (hU : U64 z) (hd : d = 0) : Calls Try.prog 11 #[.pointer (some ⟨p, 0, none⟩), .pointer (some ⟨br, 0, none⟩), .agg #[.int .i64 d, .int .i64 n, .int .u64 z, .int .i64 k, .int .i64 v]] W fun e w' => DoesT F w p br base e w' := by
  have HD : Hid (Bo F w (W.alloc (.cells #[.int .i64 d, .int .i64 n, .int .u64 z, .int .i64 k, .int .i64 v] 37)) p br base W.heap.size d n z k v s s) := bo_new I hF hR hb
  have HU : Hid (U64 z) := hU
  have HO : Hid (Ok s) := I.ok hF
  have hy : (d == 0) = true := by simp [hd]
  clear hF hR hb hU hd
  go_enter Try.func11, Try.ntmps11
  go_upto_region 1 with fail
  generalize (W.alloc (.cells #[.int .i64 d, .int .i64 n, .int .u64 z, .int .i64 k, .int .i64 v] 37)) = W1 at *
  generalize W.heap.size = ob at *
  have y0 := HD.out.o.cell 0
  have y1 := HD.out.o.cell 1
  go_wp2_with fail
  refine (I.add (t := n) HD.out.f).mono ?_
  rintro e w5 ⟨rfl, h5, f5⟩
  have HD5 : Hid (Bo F w w5 p br base ob d n z k v (addS s n) s) := HD.out.prog h5 f5
  have y1' := HD5.out.o.cell 1
  clear h5 f5 HD y0 y1
  go_wp2_with fail
  refine (radd_any w5 base br s n HD5.out.r HO.out HD5.out.z).mono ?_
  rintro e w6 ⟨rfl, h6, f6⟩
  have HD6 : Hid (Bo F w w6 p br base ob d n z k v (addS s n) (addS s n)) := HD5.out.doc I h6 f6
  clear h6 f6 HD5 y1'
  generalize addI s n = ai at *
  generalize addE s n = ae at *
  have e1 : (ai == ai) = true := by simp
  have e2 : (ae == ae) = true := by simp
  go_wp2_with fail
  go_ret
  exact ⟨rfl, _, HD6.out.f, HD6.out.r⟩

set_option maxHeartbeats 8000000 in
set_option maxRecDepth 8000 in
theorem does_add1 (I : Ifc F) (hF : F w W p s) (hR : RfT W base br s) (hb : w.heap.size ≤ base) (hU : U64 z) (hd : d = 1) : Calls Try.prog 11 #[.pointer (some ⟨p, 0, none⟩), .pointer (some ⟨br, 0, none⟩), .agg #[.int .i64 d, .int .i64 n, .int .u64 z, .int .i64 k, .int .i64 v]] W fun e w' => DoesT F w p br base e w' := by
  have HD : Hid (Bo F w (W.alloc (.cells #[.int .i64 d, .int .i64 n, .int .u64 z, .int .i64 k, .int .i64 v] 37)) p br base W.heap.size d n z k v s s) := bo_new I hF hR hb
  have HU : Hid (U64 z) := hU
  have HO : Hid (Ok s) := I.ok hF
  have hn0 : (d == 0) = false := by simp; omega
  have hy : (d == 1) = true := by simp [hd]
  clear hF hR hb hU hd
  go_enter Try.func11, Try.ntmps11
  go_upto_region 1 with fail
  generalize (W.alloc (.cells #[.int .i64 d, .int .i64 n, .int .u64 z, .int .i64 k, .int .i64 v] 37)) = W1 at *
  generalize W.heap.size = ob at *
  have y0 := HD.out.o.cell 0
  have y1 := HD.out.o.cell 1
  go_wp2_with fail
  refine (I.add (t := n) HD.out.f).mono ?_
  rintro e w5 ⟨rfl, h5, f5⟩
  have HD5 : Hid (Bo F w w5 p br base ob d n z k v (addS s n) s) := HD.out.prog h5 f5
  have y1' := HD5.out.o.cell 1
  clear h5 f5 HD y0 y1
  go_wp2_with fail
  refine (radd_any w5 base br s n HD5.out.r HO.out HD5.out.z).mono ?_
  rintro e w6 ⟨rfl, h6, f6⟩
  have HD6 : Hid (Bo F w w6 p br base ob d n z k v (addS s n) (addS s n)) := HD5.out.doc I h6 f6
  clear h6 f6 HD5 y1'
  generalize addI s n = ai at *
  generalize addE s n = ae at *
  have e1 : (ai == ai) = true := by simp
  have e2 : (ae == ae) = true := by simp
  go_wp2_with fail
  go_ret
  exact ⟨rfl, _, HD6.out.f, HD6.out.r⟩

set_option maxHeartbeats 8000000 in
set_option maxRecDepth 8000 in
theorem does_reply (I : Ifc F) (hF : F w W p s) (hR : RfT W base br s) (hb : w.heap.size ≤ base) (hU : U64 z) (hd : d = 4) : Calls Try.prog 11 #[.pointer (some ⟨p, 0, none⟩), .pointer (some ⟨br, 0, none⟩), .agg #[.int .i64 d, .int .i64 n, .int .u64 z, .int .i64 k, .int .i64 v]] W fun e w' => DoesT F w p br base e w' := by
  have HD : Hid (Bo F w (W.alloc (.cells #[.int .i64 d, .int .i64 n, .int .u64 z, .int .i64 k, .int .i64 v] 37)) p br base W.heap.size d n z k v s s) := bo_new I hF hR hb
  have HU : Hid (U64 z) := hU
  have HO : Hid (Ok s) := I.ok hF
  have hn0 : (d == 0) = false := by simp; omega
  have hn1 : (d == 1) = false := by simp; omega
  have hn2 : (d == 2) = false := by simp; omega
  have hn3 : (d == 3) = false := by simp; omega
  have hy : (d == 4) = true := by simp [hd]
  clear hF hR hb hU hd
  go_enter Try.func11, Try.ntmps11
  go_upto_region 1 with fail
  generalize (W.alloc (.cells #[.int .i64 d, .int .i64 n, .int .u64 z, .int .i64 k, .int .i64 v] 37)) = W1 at *
  generalize W.heap.size = ob at *
  have y0 := HD.out.o.cell 0
  go_wp2_with fail
  have HDD : Hid (Bo F w W1.drew p br base ob d n z k v s s) := HD.out.over I (Below.refl _ _).drew
  replace HD := HDD
  clear HDD y0
  refine wp_region_late (E := []) (S := (fun X => Blk X ob 37 [.int .i64 d, .int .i64 n, .int .u64 z, .int .i64 k, .int .i64 v])) (by kernel_rfl) (HD.out.o) (fun hHeld => ?_)
  simp only [List.size_toArray, List.length_cons, List.length_nil, Nat.reduceAdd]
  generalize W1.drew = wd at *
  refine wpAnyL_take [8, 18, 19] (i := 0) (v := ?_) (by kernel_rfl) (by kernel_rfl) (by kernel_rfl) rfl (by kernel_rfl) (by kernel_rfl) (by kernel_rfl) (fun _ _ _ h => h) (Or.inl ⟨by rfl, ?_⟩) hHeld ?_
  rotate_left
  · (intro w hSw; (try dsimp only at hSw); go_simp; try with_reducible rfl)
  try simp only [Act.put, List.setIfInBounds_toArray, List.set_cons_zero, List.set_cons_succ, List.getElem_toArray, List.getElem_cons_zero]
  refine wpAnyL_take [2, 3, 8, 18, 19] (i := 1) (v := ?_) (by kernel_rfl) (by kernel_rfl) (by kernel_rfl) rfl (by kernel_rfl) (by kernel_rfl) (by kernel_rfl) (fun _ _ _ h => h) (Or.inl ⟨by rfl, ?_⟩) hHeld ?_
  rotate_left
  · (intro w hSw; (try dsimp only at hSw); go_simp; try with_reducible rfl)
  try simp only [Act.put, List.setIfInBounds_toArray, List.set_cons_zero, List.set_cons_succ, List.getElem_toArray, List.getElem_cons_zero, List.getElem_cons_succ]
  refine wpAnyL_take [3, 8, 18, 19] (i := 2) (v := ?_) (by kernel_rfl) (by kernel_rfl) (by kernel_rfl) rfl (by kernel_rfl) (by kernel_rfl) (by kernel_rfl) (fun _ _ _ h => h) (Or.inl ⟨by rfl, ?_⟩) hHeld ?_
  rotate_left
  · (intro w hSw; (try dsimp only at hSw); have hc := hSw.cell 1; go_simp; try with_reducible rfl)
  try simp only [Act.put, List.setIfInBounds_toArray, List.set_cons_zero, List.set_cons_succ, List.getElem_toArray, List.getElem_cons_zero, List.getElem_cons_succ]
  refine wpAnyL_take [8, 18, 19] (i := 3) (v := ?_) (by kernel_rfl) (by kernel_rfl) (by kernel_rfl) rfl (by kernel_rfl) (by kernel_rfl) (by kernel_rfl) (fun _ _ _ h => h) (Or.inl ⟨by rfl, ?_⟩) hHeld ?_
  rotate_left
  · (intro w hSw; (try dsimp only at hSw); have hcv : IntKind.u64.wrap n = toU n := rfl; go_simp; try with_reducible rfl)
  try simp only [Act.put, List.setIfInBounds_toArray, List.set_cons_zero, List.set_cons_succ, List.getElem_toArray, List.getElem_cons_zero, List.getElem_cons_succ]
  refine wpAnyL_take [5, 8, 18, 19] (i := 4) (v := ?_) (by kernel_rfl) (by kernel_rfl) (by kernel_rfl) rfl (by kernel_rfl) (by kernel_rfl) (by kernel_rfl) (fun _ _ _ h => h) (Or.inl ⟨by rfl, ?_⟩) hHeld ?_
  rotate_left
  · (intro w hSw; (try dsimp only at hSw); go_simp; try with_reducible rfl)
  try simp only [Act.put, List.setIfInBounds_toArray, List.set_cons_zero, List.set_cons_succ, List.getElem_toArray, List.getElem_cons_zero, List.getElem_cons_succ]
  refine wpAnyL_take [8, 18, 19] (i := 5) (v := ?_) (by kernel_rfl) (by kernel_rfl) (by kernel_rfl) rfl (by kernel_rfl) (by kernel_rfl) (by kernel_rfl) (fun _ _ _ h => h) (Or.inl ⟨by rfl, ?_⟩) hHeld ?_
  rotate_left
  · (intro w hSw; (try dsimp only at hSw); have hc := hSw.cell 2; go_simp; try with_reducible rfl)
  try simp only [Act.put, List.setIfInBounds_toArray, List.set_cons_zero, List.set_cons_succ, List.getElem_toArray, List.getElem_cons_zero, List.getElem_cons_succ]
  refine wpAnyL_take [7, 8, 18, 19] (i := 6) (v := ?_) (by kernel_rfl) (by kernel_rfl) (by kernel_rfl) rfl (by kernel_rfl) (by kernel_rfl) (by kernel_rfl) (fun _ _ _ h => h) (Or.inl ⟨by rfl, ?_⟩) hHeld ?_
  rotate_left
  · (intro w hSw; (try dsimp only at hSw); go_simp; try with_reducible rfl)
  try simp only [Act.put, List.setIfInBounds_toArray, List.set_cons_zero, List.set_cons_succ, List.getElem_toArray, List.getElem_cons_zero, List.getElem_cons_succ]
  refine wpAnyL_take [8, 18, 19] (i := 7) (v := ?_) (by kernel_rfl) (by kernel_rfl) (by kernel_rfl) rfl (by kernel_rfl) (by kernel_rfl) (by kernel_rfl) (fun _ _ _ h => h) (Or.inl ⟨by rfl, ?_⟩) hHeld ?_
  rotate_left
  · (intro w hSw; (try dsimp only at hSw); have hc := hSw.cell 3; have hc4 := hSw.cell 4; go_simp; try with_reducible rfl)
  try simp only [Act.put, List.setIfInBounds_toArray, List.set_cons_zero, List.set_cons_succ, List.getElem_toArray, List.getElem_cons_zero, List.getElem_cons_succ]
  refine wpAnyL_take [17, 18, 19] (i := 9) (v := ?_) (by kernel_rfl) (by kernel_rfl) (by kernel_rfl) rfl (by kernel_rfl) (by kernel_rfl) (by kernel_rfl) (fun _ _ _ h => h) (Or.inl ⟨by rfl, ?_⟩) hHeld ?_
  rotate_left
  · (intro w hSw; (try dsimp only at hSw); go_simp; try with_reducible rfl)
  try simp only [Act.put, List.setIfInBounds_toArray, List.set_cons_zero, List.set_cons_succ, List.getElem_toArray, List.getElem_cons_zero, List.getElem_cons_succ]
  refine wpAnyL_take [11, 12, 17, 18, 19] (i := 10) (v := ?_) (by kernel_rfl) (by kernel_rfl) (by kernel_rfl) rfl (by kernel_rfl) (by kernel_rfl) (by kernel_rfl) (fun _ _ _ h => h) (Or.inl ⟨by rfl, ?_⟩) hHeld ?_
  rotate_left
  · (intro w hSw; (try dsimp only at hSw); go_simp; try with_reducible rfl)
  try simp only [Act.put, List.setIfInBounds_toArray, List.set_cons_zero, List.set_cons_succ, List.getElem_toArray, List.getElem_cons_zero, List.getElem_cons_succ]
  refine wpAnyL_take [12, 17, 18, 19] (i := 11) (v := ?_) (by kernel_rfl) (by kernel_rfl) (by kernel_rfl) rfl (by kernel_rfl) (by kernel_rfl) (by kernel_rfl) (fun _ _ _ h => h) (Or.inl ⟨by rfl, ?_⟩) hHeld ?_
  rotate_left
  · (intro w hSw; (try dsimp only at hSw); have hc := hSw.cell 1; go_simp; try with_reducible rfl)
  try simp only [Act.put, List.setIfInBounds_toArray, List.set_cons_zero, List.set_cons_succ, List.getElem_toArray, List.getElem_cons_zero, List.getElem_cons_succ]
  refine wpAnyL_take [17, 18, 19] (i := 12) (v := ?_) (by kernel_rfl) (by kernel_rfl) (by kernel_rfl) rfl (by kernel_rfl) (by kernel_rfl) (by kernel_rfl) (fun _ _ _ h => h) (Or.inl ⟨by rfl, ?_⟩) hHeld ?_
  rotate_left
  · (intro w hSw; (try dsimp only at hSw); have hcv : IntKind.u64.wrap n = toU n := rfl; go_simp; try with_reducible rfl)
  try simp only [Act.put, List.setIfInBounds_toArray, List.set_cons_zero, List.set_cons_succ, List.getElem_toArray, List.getElem_cons_zero, List.getElem_cons_succ]
  refine wpAnyL_take [14, 17, 18, 19] (i := 13) (v := ?_) (by kernel_rfl) (by kernel_rfl) (by kernel_rfl) rfl (by kernel_rfl) (by kernel_rfl) (by kernel_rfl) (fun _ _ _ h => h) (Or.inl ⟨by rfl, ?_⟩) hHeld ?_
  rotate_left
  · (intro w hSw; (try dsimp only at hSw); go_simp; try with_reducible rfl)
  try simp only [Act.put, List.setIfInBounds_toArray, List.set_cons_zero, List.set_cons_succ, List.getElem_toArray, List.getElem_cons_zero, List.getElem_cons_succ]
  refine wpAnyL_take [17, 18, 19] (i := 14) (v := ?_) (by kernel_rfl) (by kernel_rfl) (by kernel_rfl) rfl (by kernel_rfl) (by kernel_rfl) (by kernel_rfl) (fun _ _ _ h => h) (Or.inl ⟨by rfl, ?_⟩) hHeld ?_
  rotate_left
  · (intro w hSw; (try dsimp only at hSw); have hc := hSw.cell 2; go_simp; try with_reducible rfl)
  try simp only [Act.put, List.setIfInBounds_toArray, List.set_cons_zero, List.set_cons_succ, List.getElem_toArray, List.getElem_cons_zero, List.getElem_cons_succ]
  refine wpAnyL_take [16, 17, 18, 19] (i := 15) (v := ?_) (by kernel_rfl) (by kernel_rfl) (by kernel_rfl) rfl (by kernel_rfl) (by kernel_rfl) (by kernel_rfl) (fun _ _ _ h => h) (Or.inl ⟨by rfl, ?_⟩) hHeld ?_
  rotate_left
  · (intro w hSw; (try dsimp only at hSw); go_simp; try with_reducible rfl)
  try simp only [Act.put, List.setIfInBounds_toArray, List.set_cons_zero, List.set_cons_succ, List.getElem_toArray, List.getElem_cons_zero, List.getElem_cons_succ]
  refine wpAnyL_take [17, 18, 19] (i := 16) (v := ?_) (by kernel_rfl) (by kernel_rfl) (by kernel_rfl) rfl (by kernel_rfl) (by kernel_rfl) (by kernel_rfl) (fun _ _ _ h => h) (Or.inl ⟨by rfl, ?_⟩) hHeld ?_
  rotate_left
  · (intro w hSw; (try dsimp only at hSw); have hc := hSw.cell 3; have hc4 := hSw.cell 4; go_simp; try with_reducible rfl)
  try simp only [Act.put, List.setIfInBounds_toArray, List.set_cons_zero, List.set_cons_succ, List.getElem_toArray, List.getElem_cons_zero, List.getElem_cons_succ]
  refine wpAnyL_one (i := 8) (by kernel_rfl) rfl (fun K hK => ?_)
  go_simp
  go_at_call 19
  refine (I.reply (ep := toU n) (id := z) (k := k) (v := v) (toU_ok n) HU.out HD.out.f).mono ?_
  rintro e w5 ⟨rfl, h5, f5⟩
  have HD5 : Hid (Bo F w w5 p br base ob d n z k v _ s) := HD.out.prog h5 f5
  have s1 : Blk w5 ob 37 [.int .i64 d, .int .i64 n, .int .u64 z, .int .i64 k, .int .i64 v] := HD5.out.o
  clear h5 f5
  refine hK.out _ _ (fun _ => s1) ?_
  replace hHeld := s1
  clear hK K
  try simp only [Act.put, List.setIfInBounds_toArray, List.set_cons_zero, List.set_cons_succ, List.getElem_toArray, List.getElem_cons_zero, List.getElem_cons_succ]
  refine wpAnyL_one (i := 17) (by kernel_rfl) rfl (fun K hK => ?_)
  go_simp
  go_at_call 25
  refine (rreply_any w5 base br s (toU n) z k v HD5.out.r HO.out HD5.out.z).mono ?_
  rintro e w6 ⟨rfl, h6, f6⟩
  have HD6 : Hid (Bo F w w6 p br base ob d n z k v _ _) := HD5.out.doc I h6 f6
  have s2 : Blk w6 ob 37 [.int .i64 d, .int .i64 n, .int .u64 z, .int .i64 k, .int .i64 v] := HD6.out.o
  clear h6 f6 HD5
  generalize replyE s (toU n) z k = er at *
  have e1 : (er == er) = true := by simp
  refine hK.out _ _ (fun _ => s2) ?_
  replace hHeld := s2
  clear hK K
  try simp only [Act.put, List.setIfInBounds_toArray, List.set_cons_zero, List.set_cons_succ, List.getElem_toArray, List.getElem_cons_zero, List.getElem_cons_succ]
  refine wpAnyL_take [19] (i := 18) (v := ?_) (by kernel_rfl) (by kernel_rfl) (by kernel_rfl) rfl (by kernel_rfl) (by kernel_rfl) (by kernel_rfl) (fun _ _ _ h => h) (Or.inl ⟨by rfl, ?_⟩) hHeld ?_
  rotate_left
  · (intro w hSw; (try dsimp only at hSw); go_simp; try with_reducible rfl)
  try simp only [Act.put, List.setIfInBounds_toArray, List.set_cons_zero, List.set_cons_succ, List.getElem_toArray, List.getElem_cons_zero, List.getElem_cons_succ]
  refine wpAnyL_take [] (i := 19) (v := ?_) (by kernel_rfl) (by kernel_rfl) (by kernel_rfl) rfl (by kernel_rfl) (by kernel_rfl) (by kernel_rfl) (fun _ _ _ h => h) (Or.inl ⟨by rfl, ?_⟩) hHeld ?_
  rotate_left
  · (intro w hSw; (try dsimp only at hSw); go_simp; try with_reducible rfl)
  try simp only [Act.put, List.setIfInBounds_toArray, List.set_cons_zero, List.set_cons_succ, List.getElem_toArray, List.getElem_cons_zero, List.getElem_cons_succ]
  refine wpAnyL_done (by kernel_rfl) ?_ _
  go_wp2_with fail
  go_ret
  exact ⟨rfl, _, HD6.out.f, HD6.out.r⟩

set_option maxHeartbeats 8000000 in
set_option maxRecDepth 8000 in
theorem does_send2 (I : Ifc F) (hF : F w W p s) (hR : RfT W base br s) (hb : w.heap.size ≤ base) (hU : U64 z) (hd : d = 2) : Calls Try.prog 11 #[.pointer (some ⟨p, 0, none⟩), .pointer (some ⟨br, 0, none⟩), .agg #[.int .i64 d, .int .i64 n, .int .u64 z, .int .i64 k, .int .i64 v]] W fun e w' => DoesT F w p br base e w' := by
  have HD : Hid (Bo F w (W.alloc (.cells #[.int .i64 d, .int .i64 n, .int .u64 z, .int .i64 k, .int .i64 v] 37)) p br base W.heap.size d n z k v s s) := bo_new I hF hR hb
  have HU : Hid (U64 z) := hU
  have HO : Hid (Ok s) := I.ok hF
  have hn0 : (d == 0) = false := by simp; omega
  have hn1 : (d == 1) = false := by simp; omega
  have hy : (d == 2) = true := by simp [hd]
  clear hF hR hb hU hd
  go_enter Try.func11, Try.ntmps11
  go_upto_region 1 with fail
  generalize (W.alloc (.cells #[.int .i64 d, .int .i64 n, .int .u64 z, .int .i64 k, .int .i64 v] 37)) = W1 at *
  generalize W.heap.size = ob at *
  have y0 := HD.out.o.cell 0
  obtain ⟨x, hx⟩ : ∃ x, (sendO s.L).getD En.zero = x := ⟨_, rfl⟩
  obtain ⟨q, hq⟩ : ∃ q, (sendO s.L).isSome = q := ⟨_, rfl⟩
  obtain ⟨q1, q2, q3, q4, q5, q6⟩ := x
  have HV : Hid (optV (sendO s.L) = .tuple #[.agg #[.int .u64 q1, .int .i64 q2, .int .i64 q3, .int .i64 q4, .int .i64 q5, .int .i64 q6], .bool q]) := by
    show optV (sendO s.L) = _
    unfold optV
    rw [hx, hq]
    rfl
  have HC : Hid (Calls Try.prog 22 #[.pointer (some ⟨p, 0, none⟩)] W1 fun e w' => Tld F w W1 p (sendS s) (.tuple #[.agg #[.int .u64 q1, .int .i64 q2, .int .i64 q3, .int .i64 q4, .int .i64 q5, .int .i64 q6], .bool q]) e w') := by
    have := I.send HD.out.f
    rw [HV.out] at this
    exact this
  clear hx hq
  go_wp2_with fail
  refine HC.out.mono ?_
  rintro e w5 ⟨rfl, h5, f5⟩
  have HD5 : Hid (Bo F w (w5.alloc (.cells #[.int .u64 q1, .int .i64 q2, .int .i64 q3, .int .i64 q4, .int .i64 q5, .int .i64 q6] 44)) p br base ob d n z k v (sendS s) s) := (HD.out.prog h5 f5).over I (below_new _ _)
  have B5 : Hid (Blk (w5.alloc (.cells #[.int .u64 q1, .int .i64 q2, .int .i64 q3, .int .i64 q4, .int .i64 q5, .int .i64 q6] 44)) w5.heap.size 44 [.int .u64 q1, .int .i64 q2, .int .i64 q3, .int .i64 q4, .int .i64 q5, .int .i64 q6]) := blk_new _ _ _
  obtain ⟨vr, hr⟩ := (HD.out.prog h5 f5).r
  have HR5 : Hid (RfC (w5.alloc (.cells #[.int .u64 q1, .int .i64 q2, .int .i64 q3, .int .i64 q4, .int .i64 q5, .int .i64 q6] 44)) base br vr s ∧ vr.ownBlock ≠ some w5.heap.size ∧ w5.heap.size ≠ br) := ⟨hr.over (below_new _ _), fun e => by have := own_lt hr.row _ e; omega, by have := hr.blk.lt; omega⟩
  clear hr h5 f5 HC HD y0
  go_upto_region 10 with fail
  generalize (w5.alloc (.cells #[.int .u64 q1, .int .i64 q2, .int .i64 q3, .int .i64 q4, .int .i64 q5, .int .i64 q6] 44)) = w6 at *
  generalize w5.heap.size = b1 at *
  have HC2 : Hid (Calls Try.prog 24 #[.pointer (some ⟨br, 0, none⟩)] w6 fun e w' => (e = .returned (.tuple #[.agg #[.int .u64 q1, .int .i64 q2, .int .i64 q3, .int .i64 q4, .int .i64 q5, .int .i64 q6], .bool q]) ∧ RfT w' base br (sendS s) ∧ Fr [44, 41] [] base w6 w') ∧ Kp vr br w6 w') := by
    have := rsend_kp w6 base br vr s HR5.out.1 HO.out HD5.out.z
    unfold RE at this
    rw [HV.out] at this
    exact this
  go_wp2_with fail
  refine HC2.out.mono ?_
  rintro e w7 ⟨⟨rfl, h7, f7⟩, k7⟩
  have HD7 : Hid (Bo F w (w7.alloc (.cells #[.int .u64 q1, .int .i64 q2, .int .i64 q3, .int .i64 q4, .int .i64 q5, .int .i64 q6] 44)) p br base ob d n z k v (sendS s) (sendS s)) := (HD5.out.doc I h7 f7).over I (below_new _ _)
  have B7 : Hid (Blk (w7.alloc (.cells #[.int .u64 q1, .int .i64 q2, .int .i64 q3, .int .i64 q4, .int .i64 q5, .int .i64 q6] 44)) b1 44 [.int .u64 q1, .int .i64 q2, .int .i64 q3, .int .i64 q4, .int .i64 q5, .int .i64 q6] ∧ Blk (w7.alloc (.cells #[.int .u64 q1, .int .i64 q2, .int .i64 q3, .int .i64 q4, .int .i64 q5, .int .i64 q6] 44)) w7.heap.size 44 [.int .u64 q1, .int .i64 q2, .int .i64 q3, .int .i64 q4, .int .i64 q5, .int .i64 q6]) := ⟨(k7 _ _ _ B5.out HR5.out.2.1 HR5.out.2.2).over (below_new _ _), blk_new _ _ _⟩
  clear h7 f7 k7 HC2 HD5 B5 HR5 HV
  go_upto_region 11 with fail
  generalize (w7.alloc (.cells #[.int .u64 q1, .int .i64 q2, .int .i64 q3, .int .i64 q4, .int .i64 q5, .int .i64 q6] 44)) = w8 at *
  generalize w7.heap.size = b2 at *
  have m0 := B7.out.1.cell 0
  have n0 := B7.out.2.cell 0
  have m1 := B7.out.1.cell 1
  have n1 := B7.out.2.cell 1
  have m2 := B7.out.1.cell 2
  have n2 := B7.out.2.cell 2
  have m3 := B7.out.1.cell 3
  have n3 := B7.out.2.cell 3
  have m4 := B7.out.1.cell 4
  have n4 := B7.out.2.cell 4
  have m5 := B7.out.1.cell 5
  have n5 := B7.out.2.cell 5
  have q2e : ∀ X, (binOp .eql 44 (.agg #[.int .u64 q1, .int .i64 q2, .int .i64 q3, .int .i64 q4, .int .i64 q5, .int .i64 q6]) (.agg #[.int .u64 q1, .int .i64 q2, .int .i64 q3, .int .i64 q4, .int .i64 q5, .int .i64 q6])).run Try.prog X = .ok (.bool true) X := fun X => by
    have := eql_en ⟨q1, q2, q3, q4, q5, q6⟩ ⟨q1, q2, q3, q4, q5, q6⟩ X
    rw [En.same_self] at this
    exact this
  have g2e : ∀ (X : World) (s t : Operand), (eqGuard .eql 44 s t (.agg #[.int .u64 q1, .int .i64 q2, .int .i64 q3, .int .i64 q4, .int .i64 q5, .int .i64 q6]) (.agg #[.int .u64 q1, .int .i64 q2, .int .i64 q3, .int .i64 q4, .int .i64 q5, .int .i64 q6])).run Try.prog X = .ok () X := fun X s t => guard_en .eql _ _ _ _ X (.inl rfl)
  have e1 : (q == q) = true := by simp
  go_wp2_with fail
  go_ret
  exact ⟨rfl, _, HD7.out.f, HD7.out.r⟩

set_option maxHeartbeats 8000000 in
set_option maxRecDepth 8000 in
theorem does_send3 (I : Ifc F) (hF : F w W p s) (hR : RfT W base br s) (hb : w.heap.size ≤ base) (hU : U64 z) (hd : d = 3) : Calls Try.prog 11 #[.pointer (some ⟨p, 0, none⟩), .pointer (some ⟨br, 0, none⟩), .agg #[.int .i64 d, .int .i64 n, .int .u64 z, .int .i64 k, .int .i64 v]] W fun e w' => DoesT F w p br base e w' := by
  have HD : Hid (Bo F w (W.alloc (.cells #[.int .i64 d, .int .i64 n, .int .u64 z, .int .i64 k, .int .i64 v] 37)) p br base W.heap.size d n z k v s s) := bo_new I hF hR hb
  have HU : Hid (U64 z) := hU
  have HO : Hid (Ok s) := I.ok hF
  have hn0 : (d == 0) = false := by simp; omega
  have hn1 : (d == 1) = false := by simp; omega
  have hn2 : (d == 2) = false := by simp; omega
  have hy : (d == 3) = true := by simp [hd]
  clear hF hR hb hU hd
  go_enter Try.func11, Try.ntmps11
  go_upto_region 1 with fail
  generalize (W.alloc (.cells #[.int .i64 d, .int .i64 n, .int .u64 z, .int .i64 k, .int .i64 v] 37)) = W1 at *
  generalize W.heap.size = ob at *
  have y0 := HD.out.o.cell 0
  obtain ⟨x, hx⟩ : ∃ x, (sendO s.L).getD En.zero = x := ⟨_, rfl⟩
  obtain ⟨q, hq⟩ : ∃ q, (sendO s.L).isSome = q := ⟨_, rfl⟩
  obtain ⟨q1, q2, q3, q4, q5, q6⟩ := x
  have HV : Hid (optV (sendO s.L) = .tuple #[.agg #[.int .u64 q1, .int .i64 q2, .int .i64 q3, .int .i64 q4, .int .i64 q5, .int .i64 q6], .bool q]) := by
    show optV (sendO s.L) = _
    unfold optV
    rw [hx, hq]
    rfl
  have HC : Hid (Calls Try.prog 22 #[.pointer (some ⟨p, 0, none⟩)] W1 fun e w' => Tld F w W1 p (sendS s) (.tuple #[.agg #[.int .u64 q1, .int .i64 q2, .int .i64 q3, .int .i64 q4, .int .i64 q5, .int .i64 q6], .bool q]) e w') := by
    have := I.send HD.out.f
    rw [HV.out] at this
    exact this
  clear hx hq
  go_wp2_with fail
  refine HC.out.mono ?_
  rintro e w5 ⟨rfl, h5, f5⟩
  have HD5 : Hid (Bo F w (w5.alloc (.cells #[.int .u64 q1, .int .i64 q2, .int .i64 q3, .int .i64 q4, .int .i64 q5, .int .i64 q6] 44)) p br base ob d n z k v (sendS s) s) := (HD.out.prog h5 f5).over I (below_new _ _)
  have B5 : Hid (Blk (w5.alloc (.cells #[.int .u64 q1, .int .i64 q2, .int .i64 q3, .int .i64 q4, .int .i64 q5, .int .i64 q6] 44)) w5.heap.size 44 [.int .u64 q1, .int .i64 q2, .int .i64 q3, .int .i64 q4, .int .i64 q5, .int .i64 q6]) := blk_new _ _ _
  obtain ⟨vr, hr⟩ := (HD.out.prog h5 f5).r
  have HR5 : Hid (RfC (w5.alloc (.cells #[.int .u64 q1, .int .i64 q2, .int .i64 q3, .int .i64 q4, .int .i64 q5, .int .i64 q6] 44)) base br vr s ∧ vr.ownBlock ≠ some w5.heap.size ∧ w5.heap.size ≠ br) := ⟨hr.over (below_new _ _), fun e => by have := own_lt hr.row _ e; omega, by have := hr.blk.lt; omega⟩
  clear hr h5 f5 HC HD y0
  go_upto_region 10 with fail
  generalize (w5.alloc (.cells #[.int .u64 q1, .int .i64 q2, .int .i64 q3, .int .i64 q4, .int .i64 q5, .int .i64 q6] 44)) = w6 at *
  generalize w5.heap.size = b1 at *
  have HC2 : Hid (Calls Try.prog 24 #[.pointer (some ⟨br, 0, none⟩)] w6 fun e w' => (e = .returned (.tuple #[.agg #[.int .u64 q1, .int .i64 q2, .int .i64 q3, .int .i64 q4, .int .i64 q5, .int .i64 q6], .bool q]) ∧ RfT w' base br (sendS s) ∧ Fr [44, 41] [] base w6 w') ∧ Kp vr br w6 w') := by
    have := rsend_kp w6 base br vr s HR5.out.1 HO.out HD5.out.z
    unfold RE at this
    rw [HV.out] at this
    exact this
  go_wp2_with fail
  refine HC2.out.mono ?_
  rintro e w7 ⟨⟨rfl, h7, f7⟩, k7⟩
  have HD7 : Hid (Bo F w (w7.alloc (.cells #[.int .u64 q1, .int .i64 q2, .int .i64 q3, .int .i64 q4, .int .i64 q5, .int .i64 q6] 44)) p br base ob d n z k v (sendS s) (sendS s)) := (HD5.out.doc I h7 f7).over I (below_new _ _)
  have B7 : Hid (Blk (w7.alloc (.cells #[.int .u64 q1, .int .i64 q2, .int .i64 q3, .int .i64 q4, .int .i64 q5, .int .i64 q6] 44)) b1 44 [.int .u64 q1, .int .i64 q2, .int .i64 q3, .int .i64 q4, .int .i64 q5, .int .i64 q6] ∧ Blk (w7.alloc (.cells #[.int .u64 q1, .int .i64 q2, .int .i64 q3, .int .i64 q4, .int .i64 q5, .int .i64 q6] 44)) w7.heap.size 44 [.int .u64 q1, .int .i64 q2, .int .i64 q3, .int .i64 q4, .int .i64 q5, .int .i64 q6]) := ⟨(k7 _ _ _ B5.out HR5.out.2.1 HR5.out.2.2).over (below_new _ _), blk_new _ _ _⟩
  clear h7 f7 k7 HC2 HD5 B5 HR5 HV
  go_upto_region 11 with fail
  generalize (w7.alloc (.cells #[.int .u64 q1, .int .i64 q2, .int .i64 q3, .int .i64 q4, .int .i64 q5, .int .i64 q6] 44)) = w8 at *
  generalize w7.heap.size = b2 at *
  have m0 := B7.out.1.cell 0
  have n0 := B7.out.2.cell 0
  have m1 := B7.out.1.cell 1
  have n1 := B7.out.2.cell 1
  have m2 := B7.out.1.cell 2
  have n2 := B7.out.2.cell 2
  have m3 := B7.out.1.cell 3
  have n3 := B7.out.2.cell 3
  have m4 := B7.out.1.cell 4
  have n4 := B7.out.2.cell 4
  have m5 := B7.out.1.cell 5
  have n5 := B7.out.2.cell 5
  have q2e : ∀ X, (binOp .eql 44 (.agg #[.int .u64 q1, .int .i64 q2, .int .i64 q3, .int .i64 q4, .int .i64 q5, .int .i64 q6]) (.agg #[.int .u64 q1, .int .i64 q2, .int .i64 q3, .int .i64 q4, .int .i64 q5, .int .i64 q6])).run Try.prog X = .ok (.bool true) X := fun X => by
    have := eql_en ⟨q1, q2, q3, q4, q5, q6⟩ ⟨q1, q2, q3, q4, q5, q6⟩ X
    rw [En.same_self] at this
    exact this
  have g2e : ∀ (X : World) (s t : Operand), (eqGuard .eql 44 s t (.agg #[.int .u64 q1, .int .i64 q2, .int .i64 q3, .int .i64 q4, .int .i64 q5, .int .i64 q6]) (.agg #[.int .u64 q1, .int .i64 q2, .int .i64 q3, .int .i64 q4, .int .i64 q5, .int .i64 q6])).run Try.prog X = .ok () X := fun X s t => guard_en .eql _ _ _ _ X (.inl rfl)
  have e1 : (q == q) = true := by simp
  go_wp2_with fail
  go_ret
  exact ⟨rfl, _, HD7.out.f, HD7.out.r⟩

set_option maxHeartbeats 8000000 in
set_option maxRecDepth 8000 in
theorem does_ended (I : Ifc F) (hF : F w W p s) (hR : RfT W base br s) (hb : w.heap.size ≤ base) (hU : U64 z) (hd : d = 9) : Calls Try.prog 11 #[.pointer (some ⟨p, 0, none⟩), .pointer (some ⟨br, 0, none⟩), .agg #[.int .i64 d, .int .i64 n, .int .u64 z, .int .i64 k, .int .i64 v]] W fun e w' => DoesT F w p br base e w' := by
  have HD : Hid (Bo F w (W.alloc (.cells #[.int .i64 d, .int .i64 n, .int .u64 z, .int .i64 k, .int .i64 v] 37)) p br base W.heap.size d n z k v s s) := bo_new I hF hR hb
  have HU : Hid (U64 z) := hU
  have HO : Hid (Ok s) := I.ok hF
  have hn0 : (d == 0) = false := by simp; omega
  have hn1 : (d == 1) = false := by simp; omega
  have hn2 : (d == 2) = false := by simp; omega
  have hn3 : (d == 3) = false := by simp; omega
  have hn4 : (d == 4) = false := by simp; omega
  have hn5 : (d == 5) = false := by simp; omega
  have hn6 : (d == 6) = false := by simp; omega
  have hn7 : (d == 7) = false := by simp; omega
  have hn8 : (d == 8) = false := by simp; omega
  have hy : (d == 9) = true := by simp [hd]
  clear hF hR hb hU hd
  go_enter Try.func11, Try.ntmps11
  go_upto_region 1 with fail
  generalize (W.alloc (.cells #[.int .i64 d, .int .i64 n, .int .u64 z, .int .i64 k, .int .i64 v] 37)) = W1 at *
  generalize W.heap.size = ob at *
  have y0 := HD.out.o.cell 0
  obtain ⟨x, hx⟩ : ∃ x, (endO s.L n).getD En.zero = x := ⟨_, rfl⟩
  obtain ⟨q, hq⟩ : ∃ q, (endO s.L n).isSome = q := ⟨_, rfl⟩
  obtain ⟨q1, q2, q3, q4, q5, q6⟩ := x
  have HV : Hid (optV (endO s.L n) = .tuple #[.agg #[.int .u64 q1, .int .i64 q2, .int .i64 q3, .int .i64 q4, .int .i64 q5, .int .i64 q6], .bool q]) := by
    show optV (endO s.L n) = _
    unfold optV
    rw [hx, hq]
    rfl
  have HC : Hid (Calls Try.prog 16 #[.pointer (some ⟨p, 0, none⟩), .int .i64 n] W1 fun e w' => Tld F w W1 p (endS s n) (.tuple #[.agg #[.int .u64 q1, .int .i64 q2, .int .i64 q3, .int .i64 q4, .int .i64 q5, .int .i64 q6], .bool q]) e w') := by
    have := I.ended (t := n) HD.out.f
    rw [HV.out] at this
    exact this
  clear hx hq
  have y1 := HD.out.o.cell 1
  go_wp2_with fail
  refine HC.out.mono ?_
  rintro e w5 ⟨rfl, h5, f5⟩
  have HD5 : Hid (Bo F w (w5.alloc (.cells #[.int .u64 q1, .int .i64 q2, .int .i64 q3, .int .i64 q4, .int .i64 q5, .int .i64 q6] 44)) p br base ob d n z k v (endS s n) s) := (HD.out.prog h5 f5).over I (below_new _ _)
  have B5 : Hid (Blk (w5.alloc (.cells #[.int .u64 q1, .int .i64 q2, .int .i64 q3, .int .i64 q4, .int .i64 q5, .int .i64 q6] 44)) w5.heap.size 44 [.int .u64 q1, .int .i64 q2, .int .i64 q3, .int .i64 q4, .int .i64 q5, .int .i64 q6]) := blk_new _ _ _
  obtain ⟨vr, hr⟩ := (HD.out.prog h5 f5).r
  have HR5 : Hid (RfC (w5.alloc (.cells #[.int .u64 q1, .int .i64 q2, .int .i64 q3, .int .i64 q4, .int .i64 q5, .int .i64 q6] 44)) base br vr s ∧ vr.ownBlock ≠ some w5.heap.size ∧ w5.heap.size ≠ br) := ⟨hr.over (below_new _ _), fun e => by have := own_lt hr.row _ e; omega, by have := hr.blk.lt; omega⟩
  clear hr h5 f5 HC HD y0
  go_upto_region 25 with fail
  generalize (w5.alloc (.cells #[.int .u64 q1, .int .i64 q2, .int .i64 q3, .int .i64 q4, .int .i64 q5, .int .i64 q6] 44)) = w6 at *
  generalize w5.heap.size = b1 at *
  have HC2 : Hid (Calls Try.prog 33 #[.pointer (some ⟨br, 0, none⟩), .int .i64 n] w6 fun e w' => (e = .returned (.tuple #[.agg #[.int .u64 q1, .int .i64 q2, .int .i64 q3, .int .i64 q4, .int .i64 q5, .int .i64 q6], .bool q]) ∧ RfT w' base br (endS s n) ∧ Fr [44, 41] [] base w6 w') ∧ Kp vr br w6 w') := by
    have := rended_kp w6 base br vr s n HR5.out.1 HO.out HD5.out.z
    unfold RE at this
    rw [HV.out] at this
    exact this
  have y1' := HD5.out.o.cell 1
  go_wp2_with fail
  refine HC2.out.mono ?_
  rintro e w7 ⟨⟨rfl, h7, f7⟩, k7⟩
  have HD7 : Hid (Bo F w (w7.alloc (.cells #[.int .u64 q1, .int .i64 q2, .int .i64 q3, .int .i64 q4, .int .i64 q5, .int .i64 q6] 44)) p br base ob d n z k v (endS s n) (endS s n)) := (HD5.out.doc I h7 f7).over I (below_new _ _)
  have B7 : Hid (Blk (w7.alloc (.cells #[.int .u64 q1, .int .i64 q2, .int .i64 q3, .int .i64 q4, .int .i64 q5, .int .i64 q6] 44)) b1 44 [.int .u64 q1, .int .i64 q2, .int .i64 q3, .int .i64 q4, .int .i64 q5, .int .i64 q6] ∧ Blk (w7.alloc (.cells #[.int .u64 q1, .int .i64 q2, .int .i64 q3, .int .i64 q4, .int .i64 q5, .int .i64 q6] 44)) w7.heap.size 44 [.int .u64 q1, .int .i64 q2, .int .i64 q3, .int .i64 q4, .int .i64 q5, .int .i64 q6]) := ⟨(k7 _ _ _ B5.out HR5.out.2.1 HR5.out.2.2).over (below_new _ _), blk_new _ _ _⟩
  clear h7 f7 k7 HC2 HD5 B5 HR5 HV
  go_upto_region 26 with fail
  generalize (w7.alloc (.cells #[.int .u64 q1, .int .i64 q2, .int .i64 q3, .int .i64 q4, .int .i64 q5, .int .i64 q6] 44)) = w8 at *
  generalize w7.heap.size = b2 at *
  have m0 := B7.out.1.cell 0
  have n0 := B7.out.2.cell 0
  have m1 := B7.out.1.cell 1
  have n1 := B7.out.2.cell 1
  have m2 := B7.out.1.cell 2
  have n2 := B7.out.2.cell 2
  have m3 := B7.out.1.cell 3
  have n3 := B7.out.2.cell 3
  have m4 := B7.out.1.cell 4
  have n4 := B7.out.2.cell 4
  have m5 := B7.out.1.cell 5
  have n5 := B7.out.2.cell 5
  have q2e : ∀ X, (binOp .eql 44 (.agg #[.int .u64 q1, .int .i64 q2, .int .i64 q3, .int .i64 q4, .int .i64 q5, .int .i64 q6]) (.agg #[.int .u64 q1, .int .i64 q2, .int .i64 q3, .int .i64 q4, .int .i64 q5, .int .i64 q6])).run Try.prog X = .ok (.bool true) X := fun X => by
    have := eql_en ⟨q1, q2, q3, q4, q5, q6⟩ ⟨q1, q2, q3, q4, q5, q6⟩ X
    rw [En.same_self] at this
    exact this
  have g2e : ∀ (X : World) (s t : Operand), (eqGuard .eql 44 s t (.agg #[.int .u64 q1, .int .i64 q2, .int .i64 q3, .int .i64 q4, .int .i64 q5, .int .i64 q6]) (.agg #[.int .u64 q1, .int .i64 q2, .int .i64 q3, .int .i64 q4, .int .i64 q5, .int .i64 q6])).run Try.prog X = .ok () X := fun X s t => guard_en .eql _ _ _ _ X (.inl rfl)
  have e1 : (q == q) = true := by simp
  go_wp2_with fail
  go_ret
  exact ⟨rfl, _, HD7.out.f, HD7.out.r⟩

end

end Go.Proofs.Ytlckconhhhllkaa
