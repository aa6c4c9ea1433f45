/-
  SkMem SkRow StMem StOps.
-/
import Derived.Deep.Fields
import Derived.Test.YtmcgcbgblgmmkaaGreatDoorQ28
import Derived.Test.YtmcgcbgblgmmkaaGreatDoorQ32
set_option maxRecDepth 8000
set_option maxHeartbeats 1000000
namespace Go.Proofs.YtmcgcbgblgmmkaaGreatDoor.S
open Go.ChangeShapes Go.WideShapes Go.ChangeAt Go.RowKit Go.Deep
def FlV (w : World) (v : Value) (l : List V.In) : Prop := ∃ a cap, v = .slice a l.length cap /\ V.Ins w a l.length l /\ l.length <= maxLen /\ l.length <= cap /\ (a = none -> cap = 0)
theorem FlV.below {w w' : World} {v : Value} {l : List V.In} (h : FlV w v l) (hb : Below w.heap.size w w') : FlV w' v l := by
 obtain ⟨a, cap, rfl, h1, h2, h3, h4⟩ := h
 exact ⟨a, cap, rfl, h1.below hb, h2, h3, h4⟩
section
variable {H : Type} {enc : TypeId × Value -> H} {w : World} {base : Nat} {spare : Nat -> Bool} {held : Bool} {n : Nat} {x : DataW H × List MemPlace}
end
open Go.RowKit
theorem own_slice {w : World} {base sz : Nat} {t : TypeId} {v : Value} {n : Nat} {xs : List Value} (h : w.ownsRow base t sz v n xs) : ∃ a cap, v = .slice a n cap := by
 rcases h.2 with ⟨rfl, rfl⟩ | ⟨g, cap, cur, rfl, _⟩
 ·exact ⟨none, 0, rfl⟩
 ·exact ⟨_, cap, rfl⟩
theorem own_nil (w : World) (base : Nat) : w.ownsRow base 156 4 (.slice none 0 0) 0 (V.cellsI []) := ⟨by simp [V.cellsI], .inl ⟨rfl, rfl⟩⟩
theorem below_new (w : World) (o : Obj) : Below w.heap.size w (w.alloc o) := (Below.refl _ _).alloc (Nat.le_refl _) _
theorem own_over {X Y : World} {b sz : Nat} {t : TypeId} {v : Value} {n : Nat} {xs : List Value} (h : X.ownsRow b t sz v n xs) (hb : Below X.heap.size X Y) : Y.ownsRow b t sz v n xs := P.owns_below h hb (Nat.le_refl _)
def costL (ls : List (List V.In)) : Nat := (ls.map fun l => l.length + 4).sum
def attE (ls : List (List V.In)) (l : List V.In) : Int := if (V.chk l).1 = 0 then (if 32 <= ls.length \/ 32768 < costL ls + (l.length + 4) then 16 else 0) else (V.chk l).1
def endsF : Nat -> List (List V.In) -> List Int
 | _, [] => []
 | p, l :: ls => ((p + l.length : Nat) : Int) :: endsF (p + l.length) ls
theorem endsF_snoc (p : Nat) (ls : List (List V.In)) (l : List V.In) : endsF p (ls ++ [l]) = endsF p ls ++ [((p + ls.flatten.length + l.length : Nat) : Int)] := by
 induction ls generalizing p with
 | nil => simp [endsF]
 | cons k ls ih =>
  rw [List.cons_append, endsF, endsF, ih, List.flatten_cons, List.length_append, List.cons_append, Nat.add_assoc p k.length]
theorem endsF_get (p : Nat) (ls : List (List V.In)) (i : Nat) (h : i < ls.length) : (endsF p ls)[i]? = some ((p + (ls.take (i + 1)).flatten.length : Nat) : Int) := by
 induction ls generalizing p i with
 | nil => exact absurd h (Nat.not_lt_zero _)
 | cons l ls ih =>
  cases i with
  | zero => simp [endsF]
  | succ i =>
   rw [endsF, List.getElem?_cons_succ, ih _ _ (by simpa using h), List.take_succ_cons, List.flatten_cons, List.length_append, Nat.add_assoc]
theorem take_flat {ls : List (List V.In)} {i : Nat} (h : i < ls.length) : (ls.take (i + 1)).flatten.length = (ls.take i).flatten.length + ls[i].length := by
 rw [List.take_succ_eq_append_getElem h, List.flatten_append, List.length_append]
 simp
theorem flat_le (ls : List (List V.In)) (i : Nat) : (ls.take i).flatten.length <= ls.flatten.length := by
 have := congrArg (fun x => (List.flatten x).length) (List.take_append_drop i ls)
 simp only [List.flatten_append, List.length_append] at this
 omega
theorem flat_at {ls : List (List V.In)} {i : Nat} (h : i < ls.length) : (ls.flatten.drop (ls.take i).flatten.length).take ls[i].length = ls[i] := by
 have e : ls.flatten = (ls.take i).flatten ++ (ls[i] ++ (ls.drop (i + 1)).flatten) := by
  have := List.take_append_drop i ls
  rw [List.drop_eq_getElem_cons h] at this
  have h2 := congrArg List.flatten this
  rw [List.flatten_append, List.flatten_cons] at h2
  exact h2.symm
 rw [e, List.drop_left, List.take_left]
theorem cost_flat (ls : List (List V.In)) : costL ls = ls.flatten.length + 4 * ls.length := by
 unfold costL
 induction ls with
 | nil => rfl
 | cons l ls ih => rw [List.map_cons, List.sum_cons, ih, List.flatten_cons, List.length_append, List.length_cons]; omega
def OkS (ls : List (List V.In)) : Prop := (∀ l ∈ ls, (V.chk l).1 = 0 /\ ∀ x ∈ l, x.ok) /\ ls.length <= 32 /\ costL ls <= 32768
theorem okS_nil : OkS [] := ⟨fun l h => (by cases h), by decide, by decide⟩
theorem costL_snoc (ls : List (List V.In)) (l : List V.In) : costL (ls ++ [l]) = costL ls + (l.length + 4) := by
 unfold costL
 rw [List.map_append, List.sum_append]
 simp
theorem chk_len {l : List V.In} (h : (V.chk l).1 = 0) : 0 < l.length /\ l.length <= 4096 := by
 unfold V.chk at h
 split at h
 ·cases h
 ·split at h
  ·cases h
  ·omega
theorem okS_att {ls : List (List V.In)} {l : List V.In} (h : OkS ls) (hl : ∀ x ∈ l, x.ok) (e : attE ls l = 0) : OkS (ls ++ [l]) := by
 unfold attE at e
 split at e
 case isFalse h1 => exact absurd e h1
 case isTrue h1 =>
  split at e
  ·cases e
  ·rename_i h2
   refine ⟨fun k hk => ?_, by rw [List.length_append, List.length_singleton]; omega, by rw [costL_snoc]; omega⟩
   rcases List.mem_append.1 hk with hk | hk
   ·exact h.1 k hk
   ·rw [List.mem_singleton] at hk
    subst hk
    exact ⟨h1, hl⟩
structure StkV (w : World) (b : Nat) (vc ve : Value) (ls : List (List V.In)) : Prop where
 blk : F.D.Blk w b 67 [vc, ve]
 code : w.ownsRow 0 156 4 vc ls.flatten.length (V.cellsI ls.flatten)
 ends : w.ownsRow 0 3 1 ve ls.length (V.cellsN (endsF 0 ls))
theorem StkV.over {w w' : World} {b : Nat} {vc ve : Value} {ls : List (List V.In)} (h : StkV w b vc ve ls) (hb : Below w.heap.size w w') : StkV w' b vc ve ls := ⟨h.blk.over hb, own_over h.code hb, own_over h.ends hb⟩
theorem StkV.drew {w : World} {b : Nat} {vc ve : Value} {ls : List (List V.In)} (h : StkV w b vc ve ls) : StkV w.drew b vc ve ls := ⟨h.blk.drew, h.code.drew, h.ends.drew⟩
theorem row_ne {X : World} {b c s : Nat} {t t' : TypeId} {v : Value} {n : Nat} {xs cs : List Value} (ht : t ≠ t') (h : X.ownsRow c t s v n xs) (h' : F.D.Blk X b t' cs) : v.ownBlock = none \/ v.ownBlock ≠ some b := by
 rcases h.2 with ⟨rfl, _⟩ | ⟨g, cap, cur, rfl, _, hg, _⟩
 ·exact .inl rfl
 ·refine .inr fun e => ?_
  have e2 : g = b := by simpa [Value.ownBlock] using e
  subst e2
  unfold F.D.Blk at h'
  rw [hg] at h'
  simp at h'
  exact ht h'.2
theorem grown_of_below {X Y : World} (h : Below X.heap.size X Y) (r : Option Nat) : X.grownBy Y r := ⟨h.os, h.tape, h.output, h.size, fun k hk _ => h.block k hk⟩
theorem grown_trans {X Y Z : World} {r : Option Nat} (h : X.grownBy Y r) (k : Y.grownBy Z r) : X.grownBy Z r :=
 ⟨k.os.trans h.os, k.tape.trans h.tape, k.output.trans h.output, Nat.le_trans h.size k.size, fun i hi hr => (k.block i (Nat.lt_of_lt_of_le hi h.size) hr).trans (h.block i hi hr)⟩
theorem grown_below {X Y : World} {B b : Nat} (h : X.grownBy Y (some b)) (hB : B <= b) (hs : B <= X.heap.size) : Below B X Y :=
 ⟨h.os, h.tape, h.output, h.size, fun k hk => h.block k (by omega) (by simp; omega)⟩
theorem grown_set (X : World) (b i : Nat) (v : Value) : X.grownBy (X.setCell ⟨b, i, none⟩ v) (some b) := by
 refine ⟨by simp [World.setCell], by simp [World.setCell], by simp [World.setCell], by simp, fun k hk hr => ?_⟩
 exact heap_setCell_other X ⟨b, i, none⟩ k v (fun e => hr (by rw [e]))
theorem run_fresh {P : Program} (w : World) (t ty e : TypeId) (i : TypeInfo) (z : Value) (size bytes : Nat) (ht : P.underlying t = some (.slice e)) (hi : P.info? e = some i) (hz : i.zero = some z)
  (hsize : i.size = size) (hby : i.bytes = bytes) (hzs : z.cells.size = size) (a : Option Addr) (n cap : Nat) (xs : List Value) (hown : w.ownsRow 0 e size (.slice a n cap) n xs)
  (ad : Addr) (m c : Nat) (news : List Value) (hl : news.length = m * size) (hnews : ∀ j u, news[j]? = some u -> w.cell? (ad.add j) = some u) (h1 : ∀ u ∈ news, u.oneCell' = true) (hm : 0 < m)
  (h63 : n + m <= maxLen) (hbytes : (n + m) * bytes <= 140737488355328) :
  ∃ cap' w', (Builtin.append_ #[t, t] ty #[.slice a n n, .slice (some ad) m c]).run P w = .ok (.slice (some ⟨w.heap.size, 0, none⟩) (n + m) cap') w' /\
   w'.ownsRow w.heap.size e size (.slice (some ⟨w.heap.size, 0, none⟩) (n + m) cap') (n + m) (xs ++ news) /\ Below w.heap.size w w' := by
 subst hsize
 subst hby
 have hlen : (xs ++ news).length = (n + m) * i.size := by rw [List.length_append, hown.1, hl, Nat.add_mul]
 have hold : (Builtin.firstCells i.size n (.slice a n n)).run P w.drew = .ok xs.toArray w.drew := by
  rcases hown.2 with ⟨e0, h0⟩ | ⟨g, cap2, cur, e0, _⟩
  ·cases e0
   have hx : xs = [] := List.eq_nil_of_length_eq_zero (by simpa using hown.1)
   subst hx
   exact run_firstCells_none w.drew i.size 0 0 0
  ·cases e0
   exact run_firstCells_some w.drew i.size n ⟨g, 0, none⟩ n n xs hown.1 (hown.cells (g := g) rfl)
 have hge := grownCap_ge w (n + m) n e
 have hcm : grownCap w (n + m) n e <= maxLen := grownCap_le_maxLen w (n + m) n e h63
 refine ⟨_, _, run_append_grow_src w t t ty e i z ht hi hz a n n xs hold _ m news (Src.ofSlice w ht ad m c news hl hnews h1) (by omega) (by unfold maxLen at h63; omega) (growslice_fits (by omega) hbytes), ?_, ?_⟩
 ·refine ⟨hlen, .inr ⟨w.heap.size, _, _, rfl, Nat.le_refl _, heap_alloc_new w.drew _, hge, hcm, ?_, ?_⟩⟩
  ·simp only [Array.size_append, List.size_toArray, size_zeroCells, hzs, hlen, <- Nat.add_mul]
   congr 1
   omega
  ·rw [Array.toList_append, <- hlen]
   exact List.take_left
 ·exact ((Below.refl _ _).drew).alloc (Nat.le_refl _) _
theorem cell_own {w : World} {base sz : Nat} {t : TypeId} {a : Option Addr} {n cap i : Nat} {xs : List Value} {u : Value} (h : w.ownsRow base t sz (.slice a n cap) n xs) (hi : xs[i]? = some u) : ∃ g, a = some ⟨g, 0, none⟩ /\ w.cell? ⟨g, i, none⟩ = some u := by
 have hl := (List.getElem?_eq_some_iff.1 hi).1
 rcases h.2 with ⟨e, h0⟩ | ⟨g, c, cur, e, _⟩
 ·rw [h.1, h0] at hl
  omega
 ·cases e
  have := h.cells (g := g) rfl i u hi
  rw [Addr.add_lit, Nat.zero_add] at this
  exact ⟨g, rfl, this⟩
theorem ins_part {w : World} {base : Nat} {a : Option Addr} {n cap : Nat} {L : List V.In} (h : w.ownsRow base 156 4 (.slice a n cap) n (V.cellsI L)) (hl : ∀ x ∈ L, x.ok) (p m : Nat) (hm : p + m <= n) (h0 : 0 < m) :
  ∃ g, a = some ⟨g, 0, none⟩ /\ FlV w (.slice (some ⟨g, p * 4, none⟩) m m) ((L.drop p).take m) := by
 have hlen : L.length = n := by have := h.1; rw [V.cellsI_length] at this; omega
 obtain ⟨g, rfl, _⟩ : ∃ g, a = some ⟨g, 0, none⟩ /\ True := by
  rcases h.2 with ⟨e, h1⟩ | ⟨g, c, cur, e, _⟩
  ·omega
  ·cases e
   exact ⟨g, rfl, trivial⟩
 have hcm : n <= maxLen := by
  rcases h.2 with ⟨e, _⟩ | ⟨_, _, _, e, _, _, h1, h2, _⟩
  ·cases e
  ·cases e
   omega
 have hk : ((L.drop p).take m).length = m := by rw [List.length_take, List.length_drop]; omega
 refine ⟨g, rfl, _, _, by rw [hk], ⟨rfl, fun x hx => hl x (List.mem_of_mem_drop (List.mem_of_mem_take hx)), fun _ => ⟨g, p * 4, rfl, fun i x hx => ?_⟩⟩, by rw [hk]; omega, by rw [hk]; exact Nat.le_refl _, fun e => by cases e⟩
 have hx2 : L[p + i]? = some x := by
  have hi := (List.getElem?_eq_some_iff.1 hx).1
  rw [List.getElem?_take_of_lt (by omega), List.getElem?_drop] at hx
  exact hx
 have key : ∀ c u, c < 4 -> x.cells[c]? = some u -> w.cell? ⟨g, p * 4 + i * 4 + c, none⟩ = some u := by
  intro c u hc hu
  have := h.cells (g := g) rfl ((p + i) * 4 + c) u (by rw [V.cellsI_get L (p + i) x c hx2 hc]; exact hu)
  rw [Addr.add_lit, Nat.zero_add, Nat.add_mul] at this
  exact this
 exact ⟨key 0 _ (by decide) rfl, key 1 _ (by decide) rfl, key 2 _ (by decide) rfl, key 3 _ (by decide) rfl⟩
theorem slice_full (W : World) (t e : TypeId) (ht : Tryz.prog.underlying t = some (.slice e)) (a : Option Addr) (ha : a = none \/ ∃ g, a = some ⟨g, 0, none⟩) (n cap : Nat) (h : n <= cap) (h2 : cap <= maxLen) {sz : Nat} (hs : (sizeOf e).run Tryz.prog W = .ok sz W) :
  (Instr.slice t (.slice a n cap) none (some (.int .i64 n)) (some (.int .i64 n))).run Tryz.prog W = .ok (.slice a n n) W := by
 have e1 : Tryz.prog.elem t = e := by simp [Program.elem, ht]
 have h3 : cap <= 9223372036854775807 := by unfold maxLen at h2; omega
 have h4 : (n : Int) <= (cap : Int) := by omega
 rcases ha with rfl | ⟨g, rfl⟩
 ·simp [Instr.slice, run_underlying ht, Instr.sliceBounds, run_sliceBound, hs, h4, Sem.run_bind, Result.andThen]
 ·simp [Instr.slice, run_underlying ht, Instr.sliceBounds, run_sliceBound, hs, h4, Sem.run_bind, Result.andThen, Addr.add]
theorem len_any (X : World) (b : Nat) (vc ve : Value) (ls : List (List V.In)) (hS : StkV X b vc ve ls) :
  Calls Tryz.prog 39 #[.pointer (some ⟨b, 0, none⟩)] X fun e w' => e = .returned (.int .i64 (ls.length : Nat)) /\ w' = X := by
 obtain ⟨ae, ce, rfl⟩ := own_slice hS.ends
 have c1 := hS.blk.cell 1
 simp only [List.getElem?_cons_succ, List.getElem?_cons_zero] at c1
 clear hS
 go_enter Tryz.func39, Tryz.ntmps39
 go_wp2_with fail
 go_ret
 exact ⟨rfl, rfl⟩
theorem cost_any (X : World) (b : Nat) (vc ve : Value) (ls : List (List V.In)) (hS : StkV X b vc ve ls) (h1 : ls.flatten.length <= 100000) (h2 : ls.length <= 1000) :
  Calls Tryz.prog 40 #[.pointer (some ⟨b, 0, none⟩)] X fun e w' => e = .returned (.int .i64 (costL ls : Nat)) /\ Below X.heap.size X w' := by
 have HL : Hid (∀ m, Calls Tryz.prog 39 #[.pointer (some ⟨b, 0, none⟩)] (X.drewN m) fun e w' => e = .returned (.int .i64 (ls.length : Nat)) /\ w' = X.drewN m) := fun m => len_any _ b vc ve ls (hS.over (A.below_drewN X m))
 have HB : Hid (∀ m, Below X.heap.size X (X.drewN m)) := fun m => A.below_drewN X m
 have HC : Hid ((costL ls : Int) = (ls.flatten.length : Int) + 4 * (ls.length : Int)) := by unfold Hid; rw [cost_flat]; omega
 obtain ⟨ac, cc, rfl⟩ := own_slice hS.code
 have c0 := hS.blk.cell 0
 simp only [List.getElem?_cons_zero] at c0
 clear hS
 have e1 : IntKind.i64.wrap (4 * (ls.length : Int)) = 4 * (ls.length : Int) := by rw [IntKind.wrap_i64]; omega
 have e2 : IntKind.i64.wrap ((ls.flatten.length : Int) + 4 * (ls.length : Int)) = (ls.flatten.length : Int) + 4 * (ls.length : Int) := by rw [IntKind.wrap_i64]; omega
 generalize costL ls = cl at *
 generalize ls.flatten.length = fl at *
 generalize ls.length = nl at *
 go_enter Tryz.func40, Tryz.ntmps40
 go_upto_region 1 with fail
 go_quiet ((first | (go_at_call 39; exact Calls.quiet_of_same (HL.out _))))
 go_wp2_with fail
 go_ret
 exact ⟨by rw [HC.out]; rfl, HB.out _⟩
theorem filter_any (X : World) (b : Nat) (vc ve : Value) (ls : List (List V.In)) (hS : StkV X b vc ve ls) (hok : OkS ls) (i : Nat) (hi : i < ls.length) :
  Calls Tryz.prog 81 #[.pointer (some ⟨b, 0, none⟩), .int .i64 i] X fun e w' => ∃ v, e = .returned v /\ FlV X v ls[i] /\ Below X.heap.size X w' := by
 have hlen := chk_len (hok.1 ls[i] (List.getElem_mem hi)).1
 have htf := take_flat hi
 have hfl := flat_le ls (i + 1)
 have hfc : ls.flatten.length <= 32768 := by have := hok.2.2; rw [cost_flat] at this; omega
 have h32 := hok.2.1
 obtain ⟨ac, cc, rfl⟩ := own_slice hS.code
 obtain ⟨ae, ce, rfl⟩ := own_slice hS.ends
 have hLok : ∀ x ∈ ls.flatten, x.ok := fun x hx => by
  obtain ⟨l, hl, hx⟩ := List.mem_flatten.1 hx
  exact (hok.1 l hl).2 x hx
 have hcc : ls.flatten.length <= cc := by
  rcases hS.code.2 with ⟨e, h⟩ | ⟨_, _, _, e, _, _, h1, _⟩
  ·simp at e; omega
  ·simp at e; omega
 obtain ⟨g, rfl, hFl⟩ := ins_part hS.code hLok (ls.take i).flatten.length ls[i].length (by omega) hlen.1
 rw [flat_at hi] at hFl
 obtain ⟨ge, rfl, ce1⟩ := cell_own hS.ends (i := i) (u := .int .i64 ((ls.take (i + 1)).flatten.length : Nat)) (by unfold V.cellsN; rw [List.getElem?_map, endsF_get 0 ls i hi, Nat.zero_add]; rfl)
 have c0 := hS.blk.cell 0
 have c1 := hS.blk.cell 1
 simp only [List.getElem?_cons_zero, List.getElem?_cons_succ] at c0 c1
 have HF : Hid (∀ o, o = (ls.take i).flatten.length * 4 -> FlV X (.slice (some ⟨g, o, none⟩) ls[i].length ls[i].length) ls[i]) := fun o e => e ▸ hFl
 have HB : Hid (∀ m, Below X.heap.size X (X.drewN m)) := fun m => A.below_drewN X m
 have HP : Hid (∀ j, i = j + 1 -> X.cell? ⟨ge, j, none⟩ = some (.int .i64 ((ls.take i).flatten.length : Nat))) := fun j e => by
  subst e
  obtain ⟨g2, e2, h2⟩ := cell_own hS.ends (i := j) (u := .int .i64 ((ls.take (j + 1)).flatten.length : Nat)) (by unfold V.cellsN; rw [List.getElem?_map, endsF_get 0 ls j (by omega), Nat.zero_add]; rfl)
  cases e2
  exact h2
 have HZ : Hid (i = 0 -> (ls.take i).flatten.length = 0) := fun e => by subst e; rfl
 clear hS hLok hFl
 rw [htf] at ce1
 obtain ⟨q, hq⟩ : ∃ q, q = (ls.take i).flatten.length + ls[i].length := ⟨_, rfl⟩
 rw [<- hq] at ce1
 have hk1 : q <= ls.flatten.length := by omega
 have hk2 : q - (ls.take i).flatten.length = ls[i].length := by omega
 have hk3 : (ls.take i).flatten.length < q := by omega
 clear hq
 clear htf hfl hok
 generalize (ls.take i).flatten.length = p at *
 generalize ls.flatten.length = fl at *
 have HI : Hid (i < ls.length) := hi
 generalize ls[i] = li at *
 generalize li.length = m at *
 have hi1 : (i : Int) < (ls.length : Int) := by omega
 have hsl : ∀ W : World, (Instr.slice 61 (.slice (some ⟨g, 0, none⟩) fl cc) (some (.int .i64 (p : Nat))) (some (.int .i64 (q : Nat))) (some (.int .i64 (q : Nat)))).run Tryz.prog W = .ok (.slice (some ⟨g, p * 4, none⟩) m m) W := fun W => by
  have q1 : (p : Int) <= (q : Int) := by omega
  have q2 : (q : Int) <= (cc : Int) := by omega
  have q3 : ¬ q = p := by omega
  have q4 : (sizeOf 156).run Tryz.prog W = .ok 4 W := by
   obtain ⟨i0, hi0, _, hz1, _⟩ := info_parts V.Tryz.info156
   simp [sizeOf, typeInfo, hi0, hz1]
  simp [Instr.slice, run_underlying Tryz.underlying61, Instr.sliceBounds, run_sliceBound, q1, q2, q3, q4, hk2, Sem.run_bind, Result.andThen, Addr.add]
  intro hp
  rw [hp]
 go_enter Tryz.func81, Tryz.ntmps81
 go_upto_region 1 with fail
 go_quiet (fail)
 by_cases h0 : i = 0
 ·have hp := HZ.out h0
  have h00 : ¬ (0 : Int) < (i : Int) := by omega
  subst hp
  go_wp2_with fail
  go_ret
  exact ⟨_, rfl, HF.out _ rfl, HB.out _⟩
 ·obtain ⟨j, rfl⟩ : ∃ j, i = j + 1 := ⟨i - 1, by omega⟩
  have cj := HP.out j rfl
  have h00 : (0 : Int) < ((j + 1 : Nat) : Int) := by omega
  go_wp2_with fail
  go_ret
  exact ⟨_, rfl, HF.out _ rfl, HB.out _⟩
end Go.Proofs.YtmcgcbgblgmmkaaGreatDoor.S
