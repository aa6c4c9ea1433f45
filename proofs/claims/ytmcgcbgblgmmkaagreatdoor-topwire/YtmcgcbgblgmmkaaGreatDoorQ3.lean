/-
  GKMath GKLeaf GKDigits GKTake GKMem GKWtr GKRdr GKNumR GMsRdr.
-/
import Derived.Below
import Derived.Test.YtmcgcbgblgmmkaaGreatDoorRows
import Derived.WalkKit
import Derived.WalkSpells
import Derived.WalkLawsBesides
import Derived.Laws.Bits64b
import Derived.Deep.OwnRows
import Derived.WalkMore
import Derived.Laws.BytesArg
import Derived.Laws.AppendOwnNone
import Derived.Deep.AppendSrc
import Derived.Laws.IdiomStrings
import Derived.Deep.QuietTactic
import Derived.BigQuiet
import Derived.RegionTactic
import Derived.ChangeAlike
set_option maxRecDepth 100000
set_option maxHeartbeats 800000
namespace Go.Proofs.YtmcgcbgblgmmkaaGreatDoor.G.K
def digs : Nat -> Int -> List Int
 | 0, _ => []
 | k + 1, n => digs k (n / 256) ++ [n % 256]
def numOf (l : List Int) : Int := l.foldl (fun n b => n * 256 + b) 0
def pow256 : Nat -> Int
 | 0 => 1
 | k + 1 => pow256 k * 256
theorem digs_length (k : Nat) : ∀ n, (digs k n).length = k := by
 induction k with
 | zero => intro n; rfl
 | succ k ih => intro n; simp [digs, ih]
theorem digs_bd (k : Nat) : ∀ n, ∀ z ∈ digs k n, 0 <= z /\ z <= 255 := by
 induction k with
 | zero => intro n z hz; cases hz
 | succ k ih =>
  intro n z hz
  simp only [digs, List.mem_append, List.mem_singleton] at hz
  rcases hz with hz | rfl
  ·exact ih _ z hz
  ·omega
theorem pow256_pos (k : Nat) : 0 < pow256 k := by
 induction k with
 | zero => decide
 | succ k ih => simp only [pow256]; omega
def shr : Nat -> Int -> Int
 | 0, n => n
 | k + 1, n => shr k n / 256
theorem shr_bd (k : Nat) : ∀ n, 0 <= n -> 0 <= shr k n /\ shr k n <= n := by
 induction k with
 | zero => intro n h; exact ⟨h, Int.le_refl _⟩
 | succ k ih => intro n h; have := ih n h; simp only [shr]; omega
theorem shr_pos (k : Nat) : ∀ n, 0 <= n -> (0 < shr k n ↔ pow256 k <= n) := by
 have key : ∀ k n c, 0 <= n -> 0 < c -> (c <= shr k n ↔ c * pow256 k <= n) := by
  intro k
  induction k with
  | zero => intro n c h hc; simp [shr, pow256]
  | succ k ih =>
   intro n c h hc
   have := ih n (c * 256) h (by omega)
   have e : c * pow256 (k + 1) = c * 256 * pow256 k := by simp only [pow256]; rw [Int.mul_comm (pow256 k), Int.mul_assoc]
   rw [e, <- this]
   simp only [shr]
   omega
 intro n h
 have := key k n 1 h (by omega)
 rw [Int.one_mul] at this
 omega
def dig (n : Int) (j : Nat) : Int := shr j n % 256
theorem shr_succ (j : Nat) : ∀ n, shr (j + 1) n = shr j (n / 256) := by
 induction j with
 | zero => intro n; rfl
 | succ j ih => intro n; show shr (j + 1) n / 256 = _; rw [ih]; rfl
theorem digs_get (k : Nat) : ∀ n i, i < k -> (digs k n).getD i 0 = dig n (k - 1 - i) := by
 induction k with
 | zero => intro n i h; omega
 | succ k ih =>
  intro n i h
  simp only [digs]
  by_cases hi : i < k
  ·rw [List.getD_eq_getElem?_getD, List.getElem?_append_left (by rw [digs_length]; exact hi), <- List.getD_eq_getElem?_getD, ih _ _ hi]
   unfold dig
   rw [show k + 1 - 1 - i = (k - 1 - i) + 1 from by omega, shr_succ]
  ·obtain rfl : i = k := by omega
   rw [List.getD_eq_getElem?_getD, List.getElem?_append_right (by rw [digs_length]; exact Nat.le_refl _), digs_length]
   simp [dig, shr]
theorem numOf_snoc (l : List Int) (b : Int) : numOf (l ++ [b]) = numOf l * 256 + b := by simp [numOf]
theorem numOf_bd (l : List Int) (h : ∀ z ∈ l, 0 <= z /\ z <= 255) : 0 <= numOf l /\ numOf l + 1 <= pow256 l.length := by
 suffices ∀ (r : List Int), (∀ z ∈ r, 0 <= z /\ z <= 255) -> 0 <= numOf r.reverse /\ numOf r.reverse + 1 <= pow256 r.length by
  have := this l.reverse (fun z hz => h z (List.mem_reverse.1 hz))
  simpa using this
 intro r
 induction r with
 | nil => intro _; decide
 | cons b r ih =>
  intro h
  have h1 := ih (fun z hz => h z (List.mem_cons_of_mem _ hz))
  have h2 := h b List.mem_cons_self
  rw [List.reverse_cons, numOf_snoc]
  simp only [List.length_cons, pow256]
  omega
theorem numOf_digs (k : Nat) : ∀ n, 0 <= n -> n < pow256 k -> numOf (digs k n) = n := by
 induction k with
 | zero => intro n h0 h1; simp only [pow256] at h1; simp only [digs, numOf, List.foldl_nil]; omega
 | succ k ih =>
  intro n h0 h1
  simp only [digs, pow256] at *
  rw [numOf_snoc, ih _ (by omega) (by omega)]
  omega
theorem pow256_mono {j k : Nat} (h : j <= k) : pow256 j <= pow256 k := by
 induction h with
 | refl => exact Int.le_refl _
 | step _ ih => have := pow256_pos j; simp only [pow256]; omega
theorem pow256_8 : pow256 8 = 18446744073709551616 := by decide
theorem pow256_7 : pow256 7 = 72057594037927936 := by decide
open Go.RowKit
theorem ret_int {k : IntKind} {a b : Int} (h : a = b) : Ending.returned (.int k a) = .returned (.int k b) := by rw [h]
theorem isSize_any (n : Int) (w : World) :
  Calls Tryz.prog 85 #[.int .i64 n] w fun e w' => e = .returned (.bool (decide (1 <= n /\ n <= 8))) /\ w' = w := by
 by_cases h1 : 1 <= n
 ·by_cases h2 : n <= 8
  ·rw [decide_eq_true (And.intro h1 h2)]
   go_enter Tryz.func85, Tryz.ntmps85
   go_wp2
   go_ret
   exact ⟨rfl, rfl⟩
  ·rw [decide_eq_false (fun h => h2 h.2)]
   go_enter Tryz.func85, Tryz.ntmps85
   go_wp2
   go_ret
   exact ⟨rfl, rfl⟩
 ·rw [decide_eq_false (fun h => h1 h.1)]
  go_enter Tryz.func85, Tryz.ntmps85
  go_wp2
  go_ret
  exact ⟨rfl, rfl⟩
def Bs (w : World) (a : Option Addr) (len : Nat) (l : List Int) : Prop :=
 l.length = len /\ (∀ n ∈ l, 0 <= n /\ n <= 255) /\
 (0 < len -> ∃ b off, a = some ⟨b, off, none⟩ /\ ∀ i, i < len -> w.cell? ⟨b, off + i, none⟩ = some (.int .u8 (l.getD i 0)))
theorem Bs.byte {w : World} {a : Option Addr} {len : Nat} {l : List Int} (h : Bs w a len l) (k : Nat) : 0 <= l.getD k 0 /\ l.getD k 0 <= 255 := by
 rw [List.getD_eq_getElem?_getD]
 by_cases hk : k < l.length
 ·have := h.2.1 _ (List.getElem_mem hk)
  rw [List.getElem?_eq_getElem hk]; exact this
 ·rw [List.getElem?_eq_none (by omega)]; simp
theorem take_snoc (l : List Int) (k : Nat) (hk : k < l.length) : l.take (k + 1) = l.take k ++ [l.getD k 0] := by
 rw [List.take_add_one, List.getElem?_eq_getElem hk]
 simp [hk]
theorem take_bd {l : List Int} (h : ∀ n ∈ l, 0 <= n /\ n <= 255) (k : Nat) (hk : k <= 7) : 0 <= numOf (l.take k) /\ numOf (l.take k) <= 72057594037927935 := by
 have h1 := numOf_bd (l.take k) (fun z hz => h z (List.mem_of_mem_take hz))
 have h2 : pow256 (l.take k).length <= pow256 7 := pow256_mono (by rw [List.length_take]; omega)
 rw [pow256_7] at h2
 omega
theorem or64 (x c : Int) (h0 : 0 <= x) (h1 : x <= 72057594037927935) (c0 : 0 <= c) (c1 : c <= 255) : bits BinOp.or IntKind.u64 (x * 256) c = x * 256 + c := by
 obtain ⟨n, rfl⟩ := Int.eq_ofNat_of_zero_le h0
 obtain ⟨m, rfl⟩ := Int.eq_ofNat_of_zero_le c0
 have e : ((n : Int) * 256) = ((n * 256 : Nat) : Int) := by omega
 rw [e, bits_or_u64_nat (n * 256) m (by omega) (by omega), show (256 : Nat) = 2 ^ 8 from rfl, <- Nat.shiftLeft_eq, <- Nat.shiftLeft_add_eq_or_of_lt (by omega)]
 omega
theorem number_any (a : Option Addr) (len cap : Nat) (l : List Int) (w : World) (hlen : len <= 8) (hb : Bs w a len l) :
  Calls Tryz.prog 93 #[.slice a len cap] w fun e w' => e = .returned (.int .u64 (numOf l)) /\ w' = w := by
 have hll := hb.1
 go_enter Tryz.func93, Tryz.ntmps93
 go_wp2
 go_loop [3, 8] (fun x i => ∃ k : Nat, k <= len /\ i = .int .i64 k /\ x = .int .u64 (numOf (l.take k))) (fun _ i => len - (intOf i).toNat)
 case atStart => exact ⟨0, Nat.zero_le _, rfl, rfl⟩
 case round =>
  obtain ⟨k, hk, rfl, rfl⟩ := hrel
  by_cases hlt : k < len
  ·obtain ⟨b, off, rfl, hc⟩ := hb.2.2 (by omega)
   have hck := hc k hlt
   clear hc
   obtain ⟨y1, y2⟩ := hb.byte k
   obtain ⟨o1, o2⟩ := take_bd hb.2.1 k (by omega)
   have HS : Hid (numOf (l.take (k + 1)) = numOf (l.take k) * 256 + l.getD k 0) := by rw [take_snoc l k (by omega), numOf_snoc]; exact rfl
   generalize l.getD k 0 = c at *
   generalize numOf (l.take k) = x at *
   have hor := or64 x c o1 o2 y1 y2
   go_wp2
   go_round
   case rel => exact ⟨k + 1, by omega, by go_num, by rw [HS.out]⟩
   case measure => simp [intOf]; omega
  ·go_wp2
   go_ret
   exact ⟨ret_int (by rw [List.take_of_length_le (by omega)]), rfl⟩
theorem Tryz.info5 : (Tryz.prog.info? 5).map (fun i => (i.zero, i.size, i.bytes)) = some (some (.int .u8 0), 1, 1) := by kernel_rfl
def filled (n : Int) (size k : Nat) (i : Nat) : Value := .int .u8 (if i < k then 0 else dig n (size - 1 - i))
theorem filled_zero (n : Int) (size i : Nat) (h : i < size) : filled n size size i = .int .u8 0 := by unfold filled; rw [if_pos h]
theorem filled_step (n : Int) (size k : Nat) (hk : k < size) (i : Nat) (c : Int) (hc : c = dig n (size - 1 - k)) : (if i = k then Value.int .u8 c else filled n size (k + 1) i) = filled n size k i := by
 unfold filled
 by_cases h : i = k
 ·subst h; rw [if_pos rfl, if_neg (by omega), hc]
 ·rw [if_neg h]
  by_cases h2 : i < k
  ·rw [if_pos h2, if_pos (by omega)]
  ·rw [if_neg h2, if_neg (by omega)]
theorem filled_bs {w : World} {b size : Nat} {n : Int} (h : w.rowIs b 5 size (filled n size 0)) : Bs w (some ⟨b, 0, none⟩) size (digs size n) := by
 refine ⟨digs_length _ _, digs_bd _ _, fun _ => ⟨b, 0, rfl, fun i hi => ?_⟩⟩
 rw [Nat.zero_add, h.cell hi, digs_get _ _ _ hi]
 unfold filled
 rw [if_neg (by omega)]
theorem digits_any (n : Int) (size : Nat) (w : World) (h0 : 0 <= n) (_h1 : n <= 18446744073709551615) (_s1 : 1 <= size) (s8 : size <= 8) :
  Calls Tryz.prog 87 #[.int .u64 n, .int .i64 size] w fun e w' => Below w.heap.size w w' /\
   ((n < pow256 size /\ e = .returned (.tuple #[.slice (some ⟨w.heap.size, 0, none⟩) size size, .bool true]) /\ w'.rowIs w.heap.size 5 size (filled n size 0)) \/
   (pow256 size <= n /\ e = .returned (.tuple #[.slice none 0 0, .bool false]))) := by
 have hmk := run_make_row' (P := Tryz.prog) 37 5 (.int .u8 0) 1 Tryz.underlying37 Tryz.info5 rfl .i64 .i64 size (by omega) (by omega)
 have hr0 : (w.alloc (.cells (madeCells #[.int .u8 0] size) 5)).rowIs w.heap.size 5 size (filled n size size) := (World.rowIs_made w (.int .u8 0) size 5).congr (fun i hi => (filled_zero n size i hi).symm)
 have hb0 : Below w.heap.size w (w.alloc (.cells (madeCells #[.int .u8 0] size) 5)) := (Below.refl _ _).alloc (Nat.le_refl _) _
 go_enter Tryz.func87, Tryz.ntmps87
 go_wp2
 go_step3
 go_wp2
 go_step3
 go_wp2
 go_loopw [6, 0, 4] (fun a x b wr => ∃ k : Nat, k <= size /\ a = .int .i64 k /\ x = .int .u64 (shr (size - k) n) /\ b = .slice (some ⟨w.heap.size, 0, none⟩) size size /\ wr.rowIs w.heap.size 5 size (filled n size k) /\ Below w.heap.size w wr) (fun a _ _ _ => (intOf a).toNat)
 case atStart => exact ⟨size, Nat.le_refl _, rfl, by rw [Nat.sub_self]; rfl, rfl, hr0, hb0⟩
 case round =>
  obtain ⟨k, hk, rfl, rfl, rfl, hrow, hbel⟩ := hrel
  have hsb := shr_bd (size - k) n h0
  by_cases hk0 : 0 < k
  ·obtain ⟨j, rfl⟩ : ∃ j, k = j + 1 := ⟨k - 1, by omega⟩
   have hc := hrow.cell (show j < size by omega)
   have hf := hrow.frozen j
   have HX : Hid (shr (size - (j + 1)) n / 256 = shr (size - j) n /\ shr (size - (j + 1)) n % 256 = dig n (size - 1 - j)) := by
    rw [show size - j = (size - (j + 1)) + 1 from by omega, show size - 1 - j = size - (j + 1) from by omega]
    exact ⟨rfl, rfl⟩
   generalize shr (size - (j + 1)) n = x at *
   go_wp2
   go_roundw
   case rel => exact ⟨j, by omega, by go_num, by rw [HX.out.1], rfl, (hrow.set j _).congr (fun i _ => filled_step n size j (by omega) i _ HX.out.2), hbel.setCell (Nat.le_refl _) _⟩
   case measure => simp [intOf]
  ·obtain rfl : k = 0 := by omega
   have HP : Hid (0 < shr (size - 0) n ↔ pow256 size <= n) := shr_pos size n h0
   generalize shr (size - 0) n = x at *
   by_cases hx : 0 < x
   ·go_wp2
    try rw [Exit.noGoto_ret]
    go_ret2
    exact ⟨hbel, .inr ⟨HP.out.1 hx, rfl⟩⟩
   ·go_wp2
    try rw [Exit.noGoto_ret]
    go_ret2
    exact ⟨hbel, .inl ⟨by have := HP.out; omega, rfl, hrow⟩⟩
theorem run_convert_bytes_zero (w : World) (p : Option Addr) (c : Nat) : (convert 37 9 (.slice p 0 c)).run Tryz.prog w = .ok (.string (strOfNums [])) w := by
 rw [run_convert_bytes_string w 37 9 5 _ 0 c Tryz.underlying37 Tryz.underlying5 Tryz.underlying9]
 cases p <;> simp [Conv.bytesToString, loadCells]
 all_goals rfl
theorem run_text {w : World} {a : Option Addr} {len : Nat} {l : List Int} (h : Bs w a len l) (cap : Nat) : (convert 37 9 (.slice a len cap)).run Tryz.prog w = .ok (.string (strOfNums l)) w := by
 rcases Nat.eq_zero_or_pos len with rfl | h0
 ·obtain rfl : l = [] := List.eq_nil_of_length_eq_zero h.1
  exact run_convert_bytes_zero w a cap
 ·obtain ⟨b, off, rfl, hc⟩ := h.2.2 h0
  exact run_convert_bytes_arg w 37 5 Tryz.underlying37 Tryz.underlying5 b off len cap l h.1 hc 9 Tryz.underlying9
theorem Bs.sub {w : World} {b off len : Nat} {l : List Int} (h : Bs w (some ⟨b, off, none⟩) len l) (i m : Nat) (hm : i + m <= len) : Bs w (some ⟨b, off + i, none⟩) m ((l.drop i).take m) := by
 refine ⟨by rw [List.length_take, List.length_drop, h.1]; omega, fun z hz => h.2.1 z (List.mem_of_mem_drop (List.mem_of_mem_take hz)), fun h0 => ⟨b, off + i, rfl, fun j hj => ?_⟩⟩
 obtain ⟨_, _, e, hc⟩ := h.2.2 (by omega)
 cases e
 rw [Nat.add_assoc, hc (i + j) (by omega)]
 simp [hj]
theorem bs_none {w : World} {a : Option Addr} : Bs w a 0 [] := ⟨rfl, by simp, fun h => absurd h (by omega)⟩
def cellsB (l : List Int) : List Value := l.map (Value.int .u8)
theorem cellsB_app (l m : List Int) : cellsB (l ++ m) = cellsB l ++ cellsB m := by simp [cellsB]
def Two (w : World) (b : Nat) (t : TypeId) (u v : Value) : Prop := w.heap[b]? = some (.cells #[u, v] t (0, 0))
section
variable {w : World} {b : Nat} {t : TypeId} {u v x : Value}
theorem Two.c0 (h : Two w b t u v) : w.cell? ⟨b, 0, none⟩ = some u := by unfold Two at h; simp [World.cell?, h]
theorem Two.c1 (h : Two w b t u v) : w.cell? ⟨b, 1, none⟩ = some v := by unfold Two at h; simp [World.cell?, h]
theorem Two.f (h : Two w b t u v) (i : Nat) : w.frozen? ⟨b, i, none⟩ = false := by unfold Two at h; simp [World.frozen?, h]
theorem Two.lt (h : Two w b t u v) : b < w.heap.size := lt_of_block h
theorem Two.set0 (h : Two w b t u v) : Two (w.setCell ⟨b, 0, none⟩ x) b t x v := by unfold Two at *; simp [World.setCell, Array.getElem?_modify, h]
theorem Two.set1 (h : Two w b t u v) : Two (w.setCell ⟨b, 1, none⟩ x) b t u x := by unfold Two at *; simp [World.setCell, Array.getElem?_modify, h]
theorem Two.grown {w' : World} {row : Option Nat} (h : Two w b t u v) (hg : w.grownBy w' row) (hr : row ≠ some b) : Two w' b t u v := by unfold Two; rw [hg.block b h.lt (fun e => hr e.symm)]; exact h
theorem Two.below {w' : World} {B : Nat} (h : Two w b t u v) (hb : Below B w w') (hB : b < B) : Two w' b t u v := by unfold Two; rw [hb.block b hB]; exact h
end
theorem own_apart {w : World} {base n : Nat} {s : Value} {xs : List Value} {b : Nat} {t : TypeId} {u v : Value} (ht : t ≠ 5) (h : w.ownsRow base 5 1 s n xs) (h2 : Two w b t u v) : s.ownBlock ≠ some b := by
 intro e
 rcases h.2 with ⟨rfl, rfl⟩ | ⟨g, cap, cur, rfl, hb, hg, _⟩
 ·cases e
 ·cases e
  unfold Two at h2
  rw [h2] at hg
  simp at hg
  exact ht hg.2
structure Wr (base : Nat) (w : World) (b : Nat) (st : List Int × Int) : Prop where
 ex : ∃ s, Two w b 75 s (.int .i64 st.2) /\ w.ownsRow base 5 1 s st.1.length (cellsB st.1)
 lo : base <= b
 bd : ∀ z ∈ st.1, 0 <= z /\ z <= 255
 no : st.2 ≠ 0 -> st.1 = []
theorem owns_bs {w : World} {base : Nat} {v : Value} {n : Nat} {l : List Int} (h : w.ownsRow base 5 1 v n (cellsB l)) (hl : ∀ z ∈ l, 0 <= z /\ z <= 255) : ∃ a cap, v = .slice a n cap /\ Bs w a n l /\ n <= cap /\ (a = none -> cap = 0) /\ (∀ x, a = some x -> base <= x.block) := by
 have hlen : l.length = n := by have := h.1; simpa [cellsB] using this
 rcases h.2 with ⟨rfl, rfl⟩ | ⟨g, cap, cur, rfl, hb, hg, hnc, hcm, hcs, htake⟩
 ·exact ⟨none, 0, rfl, ⟨hlen, hl, fun h => absurd h (by omega)⟩, by omega, fun _ => rfl, by simp⟩
 ·refine ⟨_, cap, rfl, ⟨hlen, hl, fun _ => ⟨g, 0, rfl, fun i hi => ?_⟩⟩, hnc, by simp, by intro x hx; cases hx; exact hb⟩
  have := h.cells (g := g) rfl i (.int .u8 (l.getD i 0)) (by simp [cellsB, List.getElem?_eq_getElem (show i < l.length from by omega)])
  rw [show (⟨g, 0 + i, none⟩ : Addr) = (⟨g, 0, none⟩ : Addr).add i from by unfold Addr.add; split <;> simp_all]
  exact this
theorem Bs.news {w : World} {x : Addr} {len : Nat} {l : List Int} (h : Bs w (some x) len l) : ∀ j u, (cellsB l)[j]? = some u -> w.cell? (x.add j) = some u := by
 intro j u hu
 have hj : j < l.length := by
  have := (List.getElem?_eq_some_iff.1 hu).1
  simpa [cellsB] using this
 obtain ⟨b, off, e, hc⟩ := h.2.2 (by have := h.1; omega)
 cases e
 have := hc j (by have := h.1; omega)
 rw [show (⟨b, off + j, none⟩ : Addr) = (⟨b, off, none⟩ : Addr).add j from by unfold Addr.add; split <;> simp_all] at this
 rw [this]
 simp [cellsB, List.getElem?_eq_getElem hj] at hu ⊢
 exact hu
theorem Bs.nil {w : World} {len : Nat} {l : List Int} (h : Bs w none len l) : len = 0 /\ l = [] := by
 have h0 : len = 0 := by
  rcases Nat.eq_zero_or_pos len with e | e
  ·exact e
  ·obtain ⟨_, _, e, _⟩ := h.2.2 e
   cases e
 exact ⟨h0, List.eq_nil_of_length_eq_zero (by rw [h.1, h0])⟩
theorem grow_refl (w : World) (r : Option Nat) : w.grownBy w r := ⟨rfl, rfl, rfl, Nat.le_refl _, fun _ _ _ => rfl⟩
theorem append_bytes {w : World} {ops : Array Oper} {rest : List Oper} {o : Oper} {a : Act} {Q : Exit -> Act -> World -> Prop} (hgd : o.guard = none) (s x : Operand)
  (ho : o.op = .call { callee := .builtin .append, args := #[s, x], argTypes := #[37, 37] })
  (base : Nat) (v : Value) (n : Nat) (l : List Int) (hs : a.eval s = v) (hown : w.ownsRow base 5 1 v n (cellsB l))
  (ao : Option Addr) (m c : Nat) (k : List Int) (hx : a.eval x = .slice ao m c) (hao : ao = none -> c = 0) (hb : Bs w ao m k)
  (hn : n + m <= 1000000000) (hbase : base <= w.heap.size)
  (h : ∀ v' w', w'.ownsRow base 5 1 v' (n + m) (cellsB (l ++ k)) -> w.grownBy w' v.ownBlock -> wpList Tryz.prog ops Q rest (a.put o.dst v') w') : wpList Tryz.prog ops Q (o :: rest) a w := by
 obtain ⟨i0, hi, hz0, hz1, hz2⟩ := info_parts Tryz.info5
 cases ao with
 | none =>
  obtain ⟨rfl, rfl⟩ := hb.nil
  obtain rfl := hao rfl
  refine wpList_append_own_none hgd s x 37 ho base 5 i0 1 Tryz.underlying37 hi v n (cellsB l) hs hown hx ?_
  exact h v w (by simpa using hown) (grow_refl _ _)
 | some ad =>
  refine wpList_append_own _ hgd s x 37 ho base 5 i0 (.int .u8 0) 1 1 Tryz.underlying37 hi hz0 hz1 hz2 rfl (by decide) v n (cellsB l) hs hown ad m c (cellsB k) hx (by simp [cellsB, hb.1]) hb.news (by intro u hu; simp [cellsB] at hu; obtain ⟨z, _, rfl⟩ := hu; rfl) (by unfold maxLen; omega) (by omega) hbase ?_
  intro v' w' h1 h2 _
  exact h v' w' (by rw [cellsB_app]; exact h1) h2
theorem owns_empty (w : World) : (w.alloc (Obj.cells #[] 5)).ownsRow w.heap.size 5 1 (.slice (some ⟨w.heap.size, 0, none⟩) 0 0) 0 (cellsB []) := by
 refine ⟨rfl, .inr ⟨w.heap.size, 0, #[], rfl, Nat.le_refl _, ?_, Nat.le_refl _, by decide, rfl, rfl⟩⟩
 show (w.heap.push _)[w.heap.size]? = _
 simp
theorem Bs.below {w w' : World} {a : Option Addr} {len : Nat} {l : List Int} (h : Bs w a len l) (hb : Below w.heap.size w w') : Bs w' a len l := by
 refine ⟨h.1, h.2.1, fun h0 => ?_⟩
 obtain ⟨b, off, ha, hc⟩ := h.2.2 h0
 refine ⟨b, off, ha, fun i hi => ?_⟩
 rw [hb.cell (p := ⟨b, off + i, none⟩) (World.block_lt_of_cell? w _ (hc i hi))]
 exact hc i hi
theorem clone_any (a : Option Addr) (len cap : Nat) (l : List Int) (w : World) (hao : a = none -> cap = 0) (hlen : len <= 900000000) (hb : Bs w a len l) :
  Calls Tryz.prog 49 #[.slice a len cap] w fun e w' => Below w.heap.size w w' /\ ∃ v, e = .returned v /\ w'.ownsRow w.heap.size 5 1 v len (cellsB l) := by
 cases a with
 | none =>
  obtain ⟨rfl, rfl⟩ := hb.nil
  obtain rfl := hao rfl
  have hnil := Lib.run_eql_slice_nil (P := Tryz.prog) w 37 5 none 0 0 0 0 Tryz.underlying37
  go_enter Tryz.func49, Tryz.ntmps49
  go_wp2
  go_ret
  exact ⟨Below.refl _ _, _, rfl, rfl, .inl ⟨rfl, rfl⟩⟩
 | some x =>
  have e1 : Below w.heap.size w (w.alloc (Obj.cells #[] 5)) := (Below.refl _ _).alloc (Nat.le_refl _) _
  have hb1 := hb.below e1
  have hnil := Lib.run_eql_slice_nil (P := Tryz.prog) w 37 5 (some x) len cap 0 0 Tryz.underlying37
  go_enter Tryz.func49, Tryz.ntmps49
  go_wp2_with (at_builtin; refine append_bytes rfl (.tmp 5) (.tmp 6) rfl w.heap.size _ 0 [] rfl (owns_empty w) (some x) len cap l rfl (by simp) hb1 (by omega) (by simp) ?_; intro v2 x2 ho2 hg2)
  go_ret
  have e2 := e1.grown hg2 (by simp) (by intro k hk; cases hk; exact Nat.le_refl _)
  rw [Nat.zero_add, List.nil_append] at ho2
  exact ⟨e2, _, rfl, ho2⟩
theorem owns_nil (w : World) (base : Nat) : w.ownsRow base 5 1 (.slice none 0 0) 0 (cellsB []) := ⟨rfl, .inl ⟨rfl, rfl⟩⟩
def failW (st : List Int × Int) (c : Int) : List Int × Int := if st.2 = 0 then ([], c) else st
def layW (st : List Int × Int) (k : List Int) : List Int × Int := if st.2 = 0 then (st.1 ++ k, 0) else st
def numW (st : List Int × Int) (n size : Int) : List Int × Int :=
 if 1 <= size /\ size <= 8 /\ n < pow256 size.toNat then layW st (digs size.toNat n) else failW st 1
def bytesOf (s : ByteArray) : List Int := s.data.toList.map fun b => (b.toNat : Int)
theorem bytesOf_length (s : ByteArray) : (bytesOf s).length = s.size := by unfold bytesOf; rw [List.length_map, Array.length_toList]; rfl
theorem bytesOf_bd (s : ByteArray) : ∀ z ∈ bytesOf s, 0 <= z /\ z <= 255 := by
 intro z hz
 obtain ⟨b, _, rfl⟩ := List.mem_map.1 hz
 have := b.toNat_lt
 omega
def textW (st : List Int × Int) (s : ByteArray) : List Int × Int :=
 if 65535 < s.size then failW st 4 else layW (numW st s.size 2) (bytesOf s)
theorem layW_len (st : List Int × Int) (k : List Int) : (layW st k).1.length <= st.1.length + k.length := by
 unfold layW
 split
 ·rw [List.length_append]; omega
 ·omega
theorem failW_len (st : List Int × Int) (c : Int) : (failW st c).1.length <= st.1.length := by
 unfold failW
 split
 ·simp
 ·omega
theorem numW_len (st : List Int × Int) (n size : Int) : (numW st n size).1.length <= st.1.length + 8 := by
 unfold numW
 split
 ·next h =>
  have := layW_len st (digs size.toNat n)
  rw [digs_length] at this
  omega
 ·have := failW_len st 1
  omega
theorem rowIs_bs {w : World} {b size : Nat} {n : Int} (h : w.rowIs b 5 size (filled n size 0)) : Bs w (some ⟨b, 0, none⟩) size (digs size n) := filled_bs h
theorem toBytes (w : World) (s : ByteArray) : ∃ C cap f, (convert 9 37 (.string s)).run Tryz.prog w = .ok (.slice (some ⟨w.heap.size, 0, none⟩) s.size cap) (w.drew.alloc (.cells C 5 f)) /\ Bs (w.drew.alloc (.cells C 5 f)) (some ⟨w.heap.size, 0, none⟩) s.size (bytesOf s) /\ Below w.heap.size w (w.drew.alloc (.cells C 5 f)) := by
 refine ⟨_, _, _, run_bytes_of_string w 9 37 5 s Tryz.underlying9 Tryz.underlying37 Tryz.underlying5, ⟨bytesOf_length s, bytesOf_bd s, fun _ => ⟨_, _, rfl, fun i hi => ?_⟩⟩, ((Below.refl _ _).drew).alloc (Nat.le_refl _) _⟩
 have hi' : i < s.data.size := hi
 rw [Nat.zero_add]
 show World.cell? (w.drew.alloc _) ⟨w.drew.heap.size, i, none⟩ = _
 rw [World.cell?_alloc_mark]
 unfold bytesRow bytesOf
 rw [Array.getElem?_append_left (by rw [Array.size_map]; exact hi'), Array.getElem?_map, Array.getElem?_eq_getElem hi', List.getD_eq_getElem?_getD, List.getElem?_map, Array.getElem?_toList, Array.getElem?_eq_getElem hi']
 rfl
theorem below_drewN (w : World) (n : Nat) : Below w.heap.size w (w.drewN n) := ⟨rfl, rfl, rfl, Nat.le_refl _, fun _ _ => rfl⟩
theorem wbytes_any (base : Nat) (w : World) (b : Nat) (st : List Int × Int) (h : Wr base w b st) (hn : st.1.length <= 900000000) :
  Calls Tryz.prog 20 #[.pointer (some ⟨b, 0, none⟩)] w fun e w' => Below w.heap.size w w' /\ ∃ v, e = .returned (.tuple #[v, .int .i64 st.2]) /\ w'.ownsRow w.heap.size 5 1 v st.1.length (cellsB st.1) := by
 obtain ⟨s, h2, ho⟩ := h.ex
 obtain ⟨a, cap, rfl, hbs, hcap, hao, _⟩ := owns_bs ho h.bd
 have hno := h.no
 have c0 := h2.c0
 have c1 := h2.c1
 obtain ⟨l, e⟩ := st
 simp only at *
 by_cases he : e = 0
 ·subst he
  have AO : Hid (a = none -> cap = 0) := hao
  clear h hno hao
  go_enter Tryz.func20, Tryz.ntmps20
  go_wp2_with (go_at_call 49; refine (clone_any a l.length cap l _ AO.out hn hbs).mono ?_; rintro e w2 ⟨hb2, v, rfl, ho2⟩)
  go_ret2
  exact ⟨hb2, v, rfl, ho2⟩
 ·obtain rfl := hno he
  clear h hao hno
  go_enter Tryz.func20, Tryz.ntmps20
  go_wp2
  go_quiet (fail)
  go_wp2
  go_ret2
  exact ⟨below_drewN _ _, _, rfl, owns_nil _ _⟩
structure Rd (w : World) (b : Nat) (st : List Int × Int) : Prop where
 ex : ∃ a n cap, Two w b 177 (.slice a n cap) (.int .i64 st.2) /\ Bs w a n st.1 /\ n <= cap /\ (a = none -> cap = 0) /\ (∀ x, a = some x -> x.spot = none /\ ∃ C f, w.heap[x.block]? = some (.cells C 5 f))
 no : st.2 ≠ 0 -> st.1 = []
theorem Rd.lt {w : World} {b : Nat} {st : List Int × Int} (h : Rd w b st) : b < w.heap.size := by
 obtain ⟨a, n, cap, h2, _⟩ := h.ex
 exact h2.lt
theorem Bs.same {w w' : World} {a : Option Addr} {len : Nat} {l : List Int} (h : Bs w a len l) (hs : ∀ x, a = some x -> w'.heap[x.block]? = w.heap[x.block]?) : Bs w' a len l := by
 refine ⟨h.1, h.2.1, fun h0 => ?_⟩
 obtain ⟨b, off, ha, hc⟩ := h.2.2 h0
 refine ⟨b, off, ha, fun i hi => ?_⟩
 rw [World.cell?_of_block (w := w) (a := ⟨b, off + i, none⟩) (hs ⟨b, off, none⟩ ha)]
 exact hc i hi
theorem Rd.grown {w w' : World} {b : Nat} {st : List Int × Int} {row : Option Nat} (h : Rd w b st) (hg : w.grownBy w' row) (h1 : row ≠ some b) (h2 : ∀ g C f, w.heap[g]? = some (.cells C 5 f) -> row ≠ some g) : Rd w' b st := by
 obtain ⟨a, n, cap, t2, hb, hc, hao, hx⟩ := h.ex
 have hs : ∀ x, a = some x -> w'.heap[x.block]? = w.heap[x.block]? := by
  intro x e
  obtain ⟨_, C, f, hC⟩ := hx x e
  exact hg.block _ (lt_of_block hC) (fun e => h2 _ C f hC e.symm)
 refine ⟨⟨a, n, cap, t2.grown hg h1, hb.same hs, hc, hao, fun x e => ⟨(hx x e).1, ?_⟩⟩, h.no⟩
 obtain ⟨_, C, f, hC⟩ := hx x e
 exact ⟨C, f, by rw [hs x e]; exact hC⟩
theorem Rd.below {w w' : World} {b : Nat} {st : List Int × Int} (h : Rd w b st) (hb : Below w.heap.size w w') : Rd w' b st :=
 h.grown (row := none) ⟨hb.os, hb.tape, hb.output, hb.size, fun k hk _ => hb.block k hk⟩ (by simp) (by simp)
theorem grown_trans {a b c : World} {row : Option Nat} (h : a.grownBy b row) (k : b.grownBy c row) : a.grownBy c row :=
 ⟨k.os.trans h.os, k.tape.trans h.tape, k.output.trans h.output, Nat.le_trans h.size k.size, fun i hi hr => (k.block i (Nat.lt_of_lt_of_le hi h.size) hr).trans (h.block i hi hr)⟩
theorem grown_set (w : World) (b i : Nat) (v : Value) : w.grownBy (w.setCell ⟨b, i, none⟩ v) (some b) :=
 ⟨rfl, rfl, rfl, by simp [World.setCell], fun k _ hk => Below.heap_setCell _ _ _ _ (fun e => hk (by rw [e]))⟩
theorem grown_of {w w' : World} {row : Option Nat} (hb : Below w.heap.size w w') : w.grownBy w' row := ⟨hb.os, hb.tape, hb.output, hb.size, fun k hk _ => hb.block k hk⟩
theorem rfail_any (w : World) (b : Nat) (st : List Int × Int) (c : Int) (h : Rd w b st) :
  Calls Tryz.prog 91 #[.pointer (some ⟨b, 0, none⟩), .int .i64 c] w fun e w' => e = .returned (.tuple #[]) /\ Rd w' b (failW st c) /\ w.grownBy w' (some b) := by
 have H := h
 obtain ⟨a, n, cap, h2, hb, hc, hao, hx⟩ := h.ex
 have c0 := h2.c0
 have c1 := h2.c1
 have f0 := h2.f 0
 have f1 := h2.f 1
 obtain ⟨l, e⟩ := st
 simp only at c1
 clear hb hc hao hx
 by_cases he : e = 0
 ·subst he
  clear h H
  go_enter Tryz.func91, Tryz.ntmps91
  go_wp2
  go_end0
  refine ⟨rfl, ⟨⟨_, _, _, (h2.set1 (x := .int .i64 c)).set0 (x := .slice none 0 0), bs_none, Nat.le_refl _, fun _ => rfl, by simp⟩, fun _ => rfl⟩, grown_trans (grown_set _ _ _ _) (grown_set _ _ _ _)⟩
 ·have hf : failW (l, e) c = (l, e) := by unfold failW; rw [if_neg he]
  rw [hf]
  clear h
  go_enter Tryz.func91, Tryz.ntmps91
  go_wp2
  go_end0
  exact ⟨rfl, H, grow_refl _ _⟩
theorem grown_drew {w w' : World} {r : Option Nat} (h : w.grownBy w' r) : w.grownBy w'.drew r := ⟨h.os, h.tape, h.output, h.size, h.block⟩
theorem rd_done {w : World} {b g off m cap : Nat} {s : Value} {k : List Int} {C : Array Value} {f : Nat × Nat} (h2 : Two w b 177 s (.int .i64 0)) (hC : w.heap[g]? = some (.cells C 5 f)) (hgb : g ≠ b) (hb : Bs w (some ⟨g, off, none⟩) m k) (hm : m <= cap) :
  Rd (w.setCell ⟨b, 0, none⟩ (.slice (some ⟨g, off, none⟩) m cap)).drew b (k, 0) /\ w.grownBy (w.setCell ⟨b, 0, none⟩ (.slice (some ⟨g, off, none⟩) m cap)).drew (some b) := by
 have hs : ∀ v, (w.setCell ⟨b, 0, none⟩ v).drew.heap[g]? = w.heap[g]? := fun v => Below.heap_setCell w ⟨b, 0, none⟩ v g hgb
 refine ⟨⟨⟨_, _, _, h2.set0, hb.same (fun x e => by cases e; exact hs _), hm, by simp, fun x e => by cases e; exact ⟨rfl, C, f, by rw [hs]; exact hC⟩⟩, fun h => absurd rfl h⟩, grown_drew (grown_set _ _ _ _)⟩
theorem bs_kept {w : World} {b g off m : Nat} {v : Value} {k : List Int} (hgb : g ≠ b) (hb : Bs w (some ⟨g, off, none⟩) m k) : Bs (w.setCell ⟨b, 0, none⟩ v).drew (some ⟨g, off, none⟩) m k :=
 hb.same (fun x e => by cases e; exact Below.heap_setCell w ⟨b, 0, none⟩ v g hgb)
def takeR (st : List Int × Int) (size : Nat) : List Int × (List Int × Int) :=
 if st.2 ≠ 0 then ([], st) else if st.1.length < size then ([], ([], 2)) else (st.1.take size, (st.1.drop size, 0))
theorem taker_any (w : World) (b bc : Nat) (st : List Int × Int) (size : Nat) (h : Rd w b st) (hne : bc ≠ b) (hp : w.cell? ⟨bc, 0, none⟩ = some (.pointer (some ⟨b, 0, none⟩))) :
  Calls Tryz.prog 134 #[.int .i64 size, .pointer (some ⟨bc, 0, none⟩)] w fun e w' => (∃ a n cap, e = .returned (.slice a n cap) /\ Bs w' a n (takeR st size).1) /\ Rd w' b (takeR st size).2 /\ w.grownBy w' (some b) := by
 have H := h
 obtain ⟨a, n, cap, h2, hb, hc, hao, hx⟩ := h.ex
 have hll := hb.1
 have hno := h.no
 have c0 := h2.c0
 have c1 := h2.c1
 have f0 := h2.f 0
 obtain ⟨l, e⟩ := st
 simp only at c1 hll hno
 by_cases he : e = 0
 ·subst he
  by_cases hs : n < size
  ·have HT : Hid (takeR (l, 0) size = ([], ([], 2))) := by unfold Hid takeR; rw [if_neg (by simp), if_pos (by simpa [hll] using hs)]
   clear hb hc hao hx hno h
   go_enter Tryz.func134, Tryz.ntmps134
   go_wp2_with (go_at_call 91; refine (rfail_any _ b (l, 0) 2 H).mono ?_; rintro e w2 ⟨rfl, h3, hg3⟩; rw [show failW (l, 0) 2 = ([], 2) from rfl] at h3; have hlt := World.block_lt_of_cell? w _ hp; have hp2 : w2.cell? ⟨bc, 0, none⟩ = some (.pointer (some ⟨b, 0, none⟩)) := (World.cell?_of_block (w := w) (a := ⟨bc, 0, none⟩) (hg3.block bc hlt (by simpa using hne))).trans hp; obtain ⟨a3, n3, cap3, t3, _⟩ := h3.ex; have d1 := t3.c1; simp only at d1)
   go_ret
   rw [HT.out]
   exact ⟨⟨_, _, _, rfl, bs_none⟩, h3, hg3⟩
  ·have HT : Hid (takeR (l, 0) size = (l.take size, (l.drop size, 0))) := by unfold Hid takeR; rw [if_neg (by simp), if_neg (by simpa [hll] using hs)]
   cases a with
   | none =>
    obtain ⟨rfl, rfl⟩ := hb.nil
    obtain rfl := hao rfl
    obtain rfl : size = 0 := by omega
    clear hb hc hao hx hno h
    go_enter Tryz.func134, Tryz.ntmps134
    go_wp2
    go_region
    all_goals
     go_wp2
     go_ret
     rw [HT.out]
     exact ⟨⟨_, _, _, rfl, bs_none⟩, ⟨⟨_, _, _, h2.set0, bs_none, Nat.le_refl _, fun _ => rfl, by simp⟩, fun h => absurd rfl h⟩, grown_drew (grown_set _ _ _ _)⟩
   | some x =>
    obtain ⟨g, off, sp⟩ := x
    obtain ⟨hsp, C, f, hC⟩ := hx _ rfl
    simp only at hsp hC
    subst hsp
    have hgb : g ≠ b := by
     intro e
     subst e
     unfold Two at h2
     rw [h2] at hC
     simp at hC
    have hb1 : Bs w (some ⟨g, off, none⟩) size (l.take size) := by simpa using hb.sub 0 size (by omega)
    have hb2 := hb.sub size (n - size) (by omega)
    rw [List.take_of_length_le (by rw [List.length_drop]; show l.length - size <= _; omega)] at hb2
    clear hb hao hno h hx
    have hs' : (size : Int) <= (n : Int) := by omega
    by_cases hcs : cap = size
    ·have hb3 : Bs w (some ⟨g, off, none⟩) (n - size) (l.drop size) := by
      obtain rfl : n = size := by omega
      have : l.drop n = [] := List.drop_of_length_le (by omega)
      rw [Nat.sub_self, this]
      exact bs_none
     go_enter Tryz.func134, Tryz.ntmps134
     go_wp2
     go_region
     all_goals
      go_wp2
      go_ret
      rw [HT.out]
      obtain ⟨r1, r2⟩ := rd_done h2 hC hgb hb3 (show n - size <= 0 by omega)
      exact ⟨⟨_, _, _, rfl, bs_kept hgb hb1⟩, r1, r2⟩
    ·go_enter Tryz.func134, Tryz.ntmps134
     go_wp2
     go_region
     all_goals
      go_wp2
      go_ret
      rw [HT.out]
      obtain ⟨r1, r2⟩ := rd_done h2 hC hgb hb2 (show n - size <= cap - size by omega)
      exact ⟨⟨_, _, _, rfl, bs_kept hgb hb1⟩, r1, r2⟩
 ·obtain rfl := hno he
  have HT : Hid (takeR ([], e) size = ([], ([], e))) := by unfold Hid takeR; rw [if_pos (by simpa using he)]
  obtain rfl : n = 0 := by simpa using hll.symm
  clear hb hc hao hx hno h hll
  by_cases hs : 0 < size
  ·go_enter Tryz.func134, Tryz.ntmps134
   go_wp2_with (go_at_call 91; refine (rfail_any _ b ([], e) 2 H).mono ?_; rintro e' w2 ⟨rfl, h3, hg3⟩; rw [show failW ([], e) 2 = ([], e) from if_neg he] at h3; have hlt := World.block_lt_of_cell? w _ hp; have hp2 : w2.cell? ⟨bc, 0, none⟩ = some (.pointer (some ⟨b, 0, none⟩)) := (World.cell?_of_block (w := w) (a := ⟨bc, 0, none⟩) (hg3.block bc hlt (by simpa using hne))).trans hp; obtain ⟨a3, n3, cap3, t3, _⟩ := h3.ex; have d1 := t3.c1; simp only at d1)
   go_ret
   rw [HT.out]
   exact ⟨⟨_, _, _, rfl, bs_none⟩, h3, hg3⟩
  ·go_enter Tryz.func134, Tryz.ntmps134
   go_wp2
   go_ret
   rw [HT.out]
   exact ⟨⟨none, 0, ⟨0, rfl⟩, bs_none⟩, H, grow_refl _ _⟩
def numR (st : List Int × Int) (size : Int) : Int × (List Int × Int) :=
 if 1 <= size /\ size <= 8 then (numOf (takeR st size.toNat).1, (takeR st size.toNat).2) else (0, failW st 1)
def textR (st : List Int × Int) : List Int × (List Int × Int) := takeR (takeR st 2).2 (numOf (takeR st 2).1).toNat
def endR (st : List Int × Int) : Int := if st.2 ≠ 0 then st.2 else if 0 < st.1.length then 3 else 0
theorem takeR_len (st : List Int × Int) (size : Nat) : (takeR st size).1.length <= size := by
 unfold takeR
 split
 ·simp
 ·split
  ·simp
  ·rw [List.length_take]; omega
theorem Rd.boxed {w : World} {b : Nat} {st : List Int × Int} (h : Rd w b st) (o : Obj) : Rd (w.alloc o) b st := h.below ((Below.refl _ _).alloc (Nat.le_refl _) _)
theorem Rd.bd {w : World} {b : Nat} {st : List Int × Int} (h : Rd w b st) : ∀ z ∈ st.1, 0 <= z /\ z <= 255 := by
 obtain ⟨a, n, cap, _, hb, _⟩ := h.ex
 exact hb.2.1
theorem mk_any (w : World) (b : Nat) :
  Calls Tryz.prog 92 #[.pointer (some ⟨b, 0, none⟩)] w fun e w' => e = .returned (.func (Fn.func 134) #[] #[.pointer (some ⟨w.heap.size, 0, none⟩)]) /\ w' = w.alloc (.cells #[.pointer (some ⟨b, 0, none⟩)] 133) := by
 go_enter Tryz.func92, Tryz.ntmps92
 go_wp2
 go_ret
 exact ⟨rfl, rfl⟩
theorem cell_kept {w w' : World} {b bc : Nat} {v : Value} (hg : w.grownBy w' (some b)) (hne : bc ≠ b) (hp : w.cell? ⟨bc, 0, none⟩ = some v) : w'.cell? ⟨bc, 0, none⟩ = some v :=
 (World.cell?_of_block (w := w) (a := ⟨bc, 0, none⟩) (hg.block bc (World.block_lt_of_cell? w _ hp) (by simpa using hne))).trans hp
theorem box_cell (w : World) (v : Value) (t : TypeId) : (w.alloc (.cells #[v] t)).cell? ⟨w.heap.size, 0, none⟩ = some v := by simp
theorem rnum_any (w : World) (b : Nat) (st : List Int × Int) (size : Int) (h : Rd w b st) :
  Calls Tryz.prog 59 #[.pointer (some ⟨b, 0, none⟩), .int .i64 size] w fun e w' => e = .returned (.int .u64 (numR st size).1) /\ Rd w' b (numR st size).2 /\ w.grownBy w' (some b) := by
 have hlt := h.lt
 by_cases hs : 1 <= size /\ size <= 8
 ·obtain ⟨m, rfl⟩ : ∃ m : Nat, size = (m : Int) := ⟨size.toNat, by omega⟩
  have hd : decide (1 <= (m : Int) /\ (m : Int) <= 8) = true := decide_eq_true hs
  have HN : Hid (numR st m = (numOf (takeR st m).1, (takeR st m).2)) := by unfold Hid numR; rw [if_pos hs]; rfl
  have m8 : m <= 8 := by omega
  clear hs
  have hne : w.heap.size ≠ b := by omega
  have g1 : w.grownBy (w.alloc (.cells #[.pointer (some ⟨b, 0, none⟩)] 133)) (some b) := grown_of ((Below.refl _ _).alloc (Nat.le_refl _) _)
  go_enter Tryz.func59, Tryz.ntmps59
  go_wp2_with (first | (go_at_call 85; refine (isSize_any _ _).mono ?_; rintro e w' ⟨rfl, rfl⟩; rw [hd]) | (go_at_call 92; refine (mk_any _ _).mono ?_; rintro e w' ⟨rfl, rfl⟩))
  refine (taker_any _ b _ st m (h.boxed _) hne (box_cell _ _ _)).mono ?_
  rintro e w2 ⟨⟨a, n, cap, rfl, hb⟩, hr, hg⟩
  have hn8 : n <= 8 := by have := takeR_len st m; rw [hb.1] at this; omega
  go_wp2_with (go_at_call 93; refine (number_any a n cap _ _ hn8 hb).mono ?_; rintro e w' ⟨rfl, rfl⟩)
  go_ret
  rw [HN.out]
  exact ⟨rfl, hr, grown_trans g1 hg⟩
 ·have hd : decide (1 <= size /\ size <= 8) = false := decide_eq_false hs
  have HN : Hid (numR st size = (0, failW st 1)) := by unfold Hid numR; rw [if_neg hs]
  clear hs
  go_enter Tryz.func59, Tryz.ntmps59
  go_wp2_with (first | (go_at_call 85; refine (isSize_any _ _).mono ?_; rintro e w' ⟨rfl, rfl⟩; rw [hd]) | (go_at_call 91; refine (rfail_any _ b st 1 h).mono ?_; rintro e w2 ⟨rfl, h2, hg2⟩))
  go_ret
  rw [HN.out]
  exact ⟨rfl, h2, hg2⟩
theorem rtext_any (w : World) (b : Nat) (st : List Int × Int) (h : Rd w b st) :
  Calls Tryz.prog 62 #[.pointer (some ⟨b, 0, none⟩)] w fun e w' => e = .returned (.string (strOfNums (textR st).1)) /\ Rd w' b (textR st).2 /\ w.grownBy w' (some b) := by
 have hlt := h.lt
 have hne : w.heap.size ≠ b := by omega
 have g1 : w.grownBy (w.alloc (.cells #[.pointer (some ⟨b, 0, none⟩)] 133)) (some b) := grown_of ((Below.refl _ _).alloc (Nat.le_refl _) _)
 go_enter Tryz.func62, Tryz.ntmps62
 go_wp2_with (go_at_call 92; refine (mk_any _ _).mono ?_; rintro e w' ⟨rfl, rfl⟩)
 refine (taker_any _ b _ st 2 (h.boxed _) hne (box_cell _ _ _)).mono ?_
 rintro e w2 ⟨⟨a, n, cap, rfl, hb⟩, hr, hg⟩
 have hp := cell_kept hg hne (box_cell w _ 133)
 have hn2 : n <= 2 := by have := takeR_len st 2; rw [hb.1] at this; omega
 have hnb := numOf_bd _ hb.2.1
 have hpw : pow256 (takeR st 2).1.length <= pow256 2 := pow256_mono (takeR_len st 2)
 rw [show pow256 2 = 65536 from by decide] at hpw
 obtain ⟨m, hm⟩ : ∃ m : Nat, numOf (takeR st 2).1 = (m : Int) := ⟨(numOf (takeR st 2).1).toNat, by omega⟩
 have hm1 : m <= 65535 := by omega
 have HT : Hid (textR st = takeR (takeR st 2).2 m) := by unfold Hid textR; rw [hm]; rfl
 clear hnb hpw
 go_wp2_with (go_at_call 93; refine (number_any a n cap _ _ (by omega) hb).mono ?_; rintro e w' ⟨rfl, rfl⟩; rw [hm])
 refine (taker_any _ b _ _ m hr hne hp).mono ?_
 rintro e w3 ⟨⟨a3, n3, cap3, rfl, hb3⟩, hr3, hg3⟩
 have hcv := run_text hb3 cap3
 go_wp2
 go_ret
 rw [HT.out]
 exact ⟨rfl, hr3, grown_trans (grown_trans g1 hg) hg3⟩
theorem rend_any (w : World) (b : Nat) (st : List Int × Int) (h : Rd w b st) :
  Calls Tryz.prog 64 #[.pointer (some ⟨b, 0, none⟩)] w fun e w' => e = .returned (.int .i64 (endR st)) /\ w' = w := by
 obtain ⟨a, n, cap, h2, hb, _⟩ := h.ex
 have hll := hb.1
 have c0 := h2.c0
 have c1 := h2.c1
 obtain ⟨l, e⟩ := st
 simp only at c1 hll
 by_cases he : e = 0
 ·subst he
  by_cases hn : 0 < n
  ·have HE : endR (l, 0) = 3 := by unfold endR; rw [if_neg (by simp), if_pos (by show 0 < l.length; omega)]
   clear h hb h2
   go_enter Tryz.func64, Tryz.ntmps64
   go_wp2
   go_ret
   exact ⟨by rw [HE]; rfl, rfl⟩
  ·have HE : endR (l, 0) = 0 := by unfold endR; rw [if_neg (by simp), if_neg (by show ¬ 0 < l.length; omega)]
   clear h hb h2
   go_enter Tryz.func64, Tryz.ntmps64
   go_wp2
   go_ret
   exact ⟨by rw [HE]; rfl, rfl⟩
 ·have HE : endR (l, e) = e := by unfold endR; rw [if_pos (by simpa using he)]
  clear h hb h2
  go_enter Tryz.func64, Tryz.ntmps64
  go_wp2
  go_ret
  exact ⟨by rw [HE]; rfl, rfl⟩
end Go.Proofs.YtmcgcbgblgmmkaaGreatDoor.G.K
namespace Go.Proofs.YtmcgcbgblgmmkaaGreatDoor.G.R
open Go.RowKit
open K hiding Rd Rd.lt Rd.grown Rd.below rfail_any rd_done taker_any Rd.boxed rnum_any rtext_any
structure Rd (Y : Nat -> Prop) (w : World) (b : Nat) (st : List Int × Int) : Prop where
 ex : ∃ a n cap, Two w b 177 (.slice a n cap) (.int .i64 st.2) /\ Bs w a n st.1 /\ n <= cap /\ (a = none -> cap = 0) /\ (∀ x, a = some x -> x.spot = none /\ ¬ Y x.block /\ ∃ C f, w.heap[x.block]? = some (.cells C 5 f))
 no : st.2 ≠ 0 -> st.1 = []
theorem Rd.lt {Y : Nat -> Prop} {w : World} {b : Nat} {st : List Int × Int} (h : Rd Y w b st) : b < w.heap.size := by
 obtain ⟨a, n, cap, h2, _⟩ := h.ex
 exact h2.lt
theorem Rd.grown {Y : Nat -> Prop} {w w' : World} {b : Nat} {st : List Int × Int} {row : Option Nat} (h : Rd Y w b st) (hg : w.grownBy w' row) (h1 : row ≠ some b) (h2 : ∀ g C f, w.heap[g]? = some (.cells C 5 f) -> ¬ Y g -> row ≠ some g) : Rd Y w' b st := by
 obtain ⟨a, n, cap, t2, hb, hc, hao, hx⟩ := h.ex
 have hs : ∀ x, a = some x -> w'.heap[x.block]? = w.heap[x.block]? := by
  intro x e
  obtain ⟨_, hy, C, f, hC⟩ := hx x e
  exact hg.block _ (lt_of_block hC) (fun e => h2 _ C f hC hy e.symm)
 refine ⟨⟨a, n, cap, t2.grown hg h1, K.Bs.same hb hs, hc, hao, fun x e => ⟨(hx x e).1, ?_⟩⟩, h.no⟩
 obtain ⟨_, hy, C, f, hC⟩ := hx x e
 exact ⟨hy, C, f, by rw [hs x e]; exact hC⟩
theorem Rd.below {Y : Nat -> Prop} {w w' : World} {b : Nat} {st : List Int × Int} (h : Rd Y w b st) (hb : Below w.heap.size w w') : Rd Y w' b st :=
 h.grown (row := none) ⟨hb.os, hb.tape, hb.output, hb.size, fun k hk _ => hb.block k hk⟩ (by simp) (by simp)
theorem rfail_any (Y : Nat -> Prop) (w : World) (b : Nat) (st : List Int × Int) (c : Int) (h : Rd Y w b st) :
  Calls Tryz.prog 91 #[.pointer (some ⟨b, 0, none⟩), .int .i64 c] w fun e w' => e = .returned (.tuple #[]) /\ Rd Y w' b (failW st c) /\ w.grownBy w' (some b) := by
 have H := h
 obtain ⟨a, n, cap, h2, hb, hc, hao, hx⟩ := h.ex
 have c0 := h2.c0
 have c1 := h2.c1
 have f0 := h2.f 0
 have f1 := h2.f 1
 obtain ⟨l, e⟩ := st
 simp only at c1
 clear hb hc hao hx
 by_cases he : e = 0
 ·subst he
  clear h H
  go_enter Tryz.func91, Tryz.ntmps91
  go_wp2
  go_end0
  refine ⟨rfl, ⟨⟨_, _, _, (h2.set1 (x := .int .i64 c)).set0 (x := .slice none 0 0), bs_none, Nat.le_refl _, fun _ => rfl, by simp⟩, fun _ => rfl⟩, grown_trans (grown_set _ _ _ _) (grown_set _ _ _ _)⟩
 ·have hf : failW (l, e) c = (l, e) := by unfold failW; rw [if_neg he]
  rw [hf]
  clear h
  go_enter Tryz.func91, Tryz.ntmps91
  go_wp2
  go_end0
  exact ⟨rfl, H, grow_refl _ _⟩
theorem rd_done {Y : Nat -> Prop} {w : World} {b g off m cap : Nat} {s : Value} {k : List Int} {C : Array Value} {f : Nat × Nat} (h2 : Two w b 177 s (.int .i64 0)) (hC : w.heap[g]? = some (.cells C 5 f)) (hgb : g ≠ b) (hb : Bs w (some ⟨g, off, none⟩) m k) (hm : m <= cap) (hy : ¬ Y g) :
  Rd Y (w.setCell ⟨b, 0, none⟩ (.slice (some ⟨g, off, none⟩) m cap)).drew b (k, 0) /\ w.grownBy (w.setCell ⟨b, 0, none⟩ (.slice (some ⟨g, off, none⟩) m cap)).drew (some b) := by
 have hs : ∀ v, (w.setCell ⟨b, 0, none⟩ v).drew.heap[g]? = w.heap[g]? := fun v => Below.heap_setCell w ⟨b, 0, none⟩ v g hgb
 refine ⟨⟨⟨_, _, _, h2.set0, K.Bs.same hb (fun x e => by cases e; exact hs _), hm, by simp, fun x e => by cases e; exact ⟨rfl, hy, C, f, by rw [hs]; exact hC⟩⟩, fun h => absurd rfl h⟩, grown_drew (grown_set _ _ _ _)⟩
theorem taker_any (Y : Nat -> Prop) (w : World) (b bc : Nat) (st : List Int × Int) (size : Nat) (h : Rd Y w b st) (hne : bc ≠ b) (hp : w.cell? ⟨bc, 0, none⟩ = some (.pointer (some ⟨b, 0, none⟩))) :
  Calls Tryz.prog 134 #[.int .i64 size, .pointer (some ⟨bc, 0, none⟩)] w fun e w' => (∃ a n cap, e = .returned (.slice a n cap) /\ Bs w' a n (takeR st size).1) /\ Rd Y w' b (takeR st size).2 /\ w.grownBy w' (some b) := by
 have H := h
 obtain ⟨a, n, cap, h2, hb, hc, hao, hx⟩ := h.ex
 have hll := hb.1
 have hno := h.no
 have c0 := h2.c0
 have c1 := h2.c1
 have f0 := h2.f 0
 obtain ⟨l, e⟩ := st
 simp only at c1 hll hno
 by_cases he : e = 0
 ·subst he
  by_cases hs : n < size
  ·have HT : Hid (takeR (l, 0) size = ([], ([], 2))) := by unfold Hid takeR; rw [if_neg (by simp), if_pos (by simpa [hll] using hs)]
   clear hb hc hao hx hno h
   go_enter Tryz.func134, Tryz.ntmps134
   go_wp2_with (go_at_call 91; refine (rfail_any Y _ b (l, 0) 2 H).mono ?_; rintro e w2 ⟨rfl, h3, hg3⟩; rw [show failW (l, 0) 2 = ([], 2) from rfl] at h3; have hlt := World.block_lt_of_cell? w _ hp; have hp2 : w2.cell? ⟨bc, 0, none⟩ = some (.pointer (some ⟨b, 0, none⟩)) := (World.cell?_of_block (w := w) (a := ⟨bc, 0, none⟩) (hg3.block bc hlt (by simpa using hne))).trans hp; obtain ⟨a3, n3, cap3, t3, _⟩ := h3.ex; have d1 := t3.c1; simp only at d1)
   go_ret
   rw [HT.out]
   exact ⟨⟨_, _, _, rfl, bs_none⟩, h3, hg3⟩
  ·have HT : Hid (takeR (l, 0) size = (l.take size, (l.drop size, 0))) := by unfold Hid takeR; rw [if_neg (by simp), if_neg (by simpa [hll] using hs)]
   cases a with
   | none =>
    obtain ⟨rfl, rfl⟩ := hb.nil
    obtain rfl := hao rfl
    obtain rfl : size = 0 := by omega
    clear hb hc hao hx hno h
    go_enter Tryz.func134, Tryz.ntmps134
    go_wp2
    go_region
    all_goals
     go_wp2
     go_ret
     rw [HT.out]
     exact ⟨⟨_, _, _, rfl, bs_none⟩, ⟨⟨_, _, _, h2.set0, bs_none, Nat.le_refl _, fun _ => rfl, by simp⟩, fun h => absurd rfl h⟩, grown_drew (grown_set _ _ _ _)⟩
   | some x =>
    obtain ⟨g, off, sp⟩ := x
    obtain ⟨hsp, hyg, C, f, hC⟩ := hx _ rfl
    simp only at hsp hyg hC
    subst hsp
    have hgb : g ≠ b := by
     intro e
     subst e
     unfold Two at h2
     rw [h2] at hC
     simp at hC
    have hb1 : Bs w (some ⟨g, off, none⟩) size (l.take size) := by simpa using hb.sub 0 size (by omega)
    have hb2 := hb.sub size (n - size) (by omega)
    rw [List.take_of_length_le (by rw [List.length_drop]; show l.length - size <= _; omega)] at hb2
    clear hb hao hno h hx
    have hs' : (size : Int) <= (n : Int) := by omega
    by_cases hcs : cap = size
    ·have hb3 : Bs w (some ⟨g, off, none⟩) (n - size) (l.drop size) := by
      obtain rfl : n = size := by omega
      have : l.drop n = [] := List.drop_of_length_le (by omega)
      rw [Nat.sub_self, this]
      exact bs_none
     go_enter Tryz.func134, Tryz.ntmps134
     go_wp2
     go_region
     all_goals
      go_wp2
      go_ret
      rw [HT.out]
      obtain ⟨r1, r2⟩ := rd_done h2 hC hgb hb3 (show n - size <= 0 by omega) hyg
      exact ⟨⟨_, _, _, rfl, bs_kept hgb hb1⟩, r1, r2⟩
    ·go_enter Tryz.func134, Tryz.ntmps134
     go_wp2
     go_region
     all_goals
      go_wp2
      go_ret
      rw [HT.out]
      obtain ⟨r1, r2⟩ := rd_done h2 hC hgb hb2 (show n - size <= cap - size by omega) hyg
      exact ⟨⟨_, _, _, rfl, bs_kept hgb hb1⟩, r1, r2⟩
 ·obtain rfl := hno he
  have HT : Hid (takeR ([], e) size = ([], ([], e))) := by unfold Hid takeR; rw [if_pos (by simpa using he)]
  obtain rfl : n = 0 := by simpa using hll.symm
  clear hb hc hao hx hno h hll
  by_cases hs : 0 < size
  ·go_enter Tryz.func134, Tryz.ntmps134
   go_wp2_with (go_at_call 91; refine (rfail_any Y _ b ([], e) 2 H).mono ?_; rintro e' w2 ⟨rfl, h3, hg3⟩; rw [show failW ([], e) 2 = ([], e) from if_neg he] at h3; have hlt := World.block_lt_of_cell? w _ hp; have hp2 : w2.cell? ⟨bc, 0, none⟩ = some (.pointer (some ⟨b, 0, none⟩)) := (World.cell?_of_block (w := w) (a := ⟨bc, 0, none⟩) (hg3.block bc hlt (by simpa using hne))).trans hp; obtain ⟨a3, n3, cap3, t3, _⟩ := h3.ex; have d1 := t3.c1; simp only at d1)
   go_ret
   rw [HT.out]
   exact ⟨⟨_, _, _, rfl, bs_none⟩, h3, hg3⟩
  ·go_enter Tryz.func134, Tryz.ntmps134
   go_wp2
   go_ret
   rw [HT.out]
   exact ⟨⟨none, 0, ⟨0, rfl⟩, bs_none⟩, H, grow_refl _ _⟩
theorem Rd.boxed {Y : Nat -> Prop} {w : World} {b : Nat} {st : List Int × Int} (h : Rd Y w b st) (o : Obj) : Rd Y (w.alloc o) b st := h.below ((Below.refl _ _).alloc (Nat.le_refl _) _)
theorem rnum_any (Y : Nat -> Prop) (w : World) (b : Nat) (st : List Int × Int) (size : Int) (h : Rd Y w b st) :
  Calls Tryz.prog 59 #[.pointer (some ⟨b, 0, none⟩), .int .i64 size] w fun e w' => e = .returned (.int .u64 (numR st size).1) /\ Rd Y w' b (numR st size).2 /\ w.grownBy w' (some b) := by
 have hlt := h.lt
 by_cases hs : 1 <= size /\ size <= 8
 ·obtain ⟨m, rfl⟩ : ∃ m : Nat, size = (m : Int) := ⟨size.toNat, by omega⟩
  have hd : decide (1 <= (m : Int) /\ (m : Int) <= 8) = true := decide_eq_true hs
  have HN : Hid (numR st m = (numOf (takeR st m).1, (takeR st m).2)) := by unfold Hid numR; rw [if_pos hs]; rfl
  have m8 : m <= 8 := by omega
  clear hs
  have hne : w.heap.size ≠ b := by omega
  have g1 : w.grownBy (w.alloc (.cells #[.pointer (some ⟨b, 0, none⟩)] 133)) (some b) := grown_of ((Below.refl _ _).alloc (Nat.le_refl _) _)
  go_enter Tryz.func59, Tryz.ntmps59
  go_wp2_with (first | (go_at_call 85; refine (isSize_any _ _).mono ?_; rintro e w' ⟨rfl, rfl⟩; rw [hd]) | (go_at_call 92; refine (mk_any _ _).mono ?_; rintro e w' ⟨rfl, rfl⟩))
  refine (taker_any Y _ b _ st m (h.boxed _) hne (box_cell _ _ _)).mono ?_
  rintro e w2 ⟨⟨a, n, cap, rfl, hb⟩, hr, hg⟩
  have hn8 : n <= 8 := by have := takeR_len st m; rw [hb.1] at this; omega
  go_wp2_with (go_at_call 93; refine (number_any a n cap _ _ hn8 hb).mono ?_; rintro e w' ⟨rfl, rfl⟩)
  go_ret
  rw [HN.out]
  exact ⟨rfl, hr, grown_trans g1 hg⟩
 ·have hd : decide (1 <= size /\ size <= 8) = false := decide_eq_false hs
  have HN : Hid (numR st size = (0, failW st 1)) := by unfold Hid numR; rw [if_neg hs]
  clear hs
  go_enter Tryz.func59, Tryz.ntmps59
  go_wp2_with (first | (go_at_call 85; refine (isSize_any _ _).mono ?_; rintro e w' ⟨rfl, rfl⟩; rw [hd]) | (go_at_call 91; refine (rfail_any Y _ b st 1 h).mono ?_; rintro e w2 ⟨rfl, h2, hg2⟩))
  go_ret
  rw [HN.out]
  exact ⟨rfl, h2, hg2⟩
theorem rtext_any (Y : Nat -> Prop) (w : World) (b : Nat) (st : List Int × Int) (h : Rd Y w b st) :
  Calls Tryz.prog 62 #[.pointer (some ⟨b, 0, none⟩)] w fun e w' => e = .returned (.string (strOfNums (textR st).1)) /\ Rd Y w' b (textR st).2 /\ w.grownBy w' (some b) := by
 have hlt := h.lt
 have hne : w.heap.size ≠ b := by omega
 have g1 : w.grownBy (w.alloc (.cells #[.pointer (some ⟨b, 0, none⟩)] 133)) (some b) := grown_of ((Below.refl _ _).alloc (Nat.le_refl _) _)
 go_enter Tryz.func62, Tryz.ntmps62
 go_wp2_with (go_at_call 92; refine (mk_any _ _).mono ?_; rintro e w' ⟨rfl, rfl⟩)
 refine (taker_any Y _ b _ st 2 (h.boxed _) hne (box_cell _ _ _)).mono ?_
 rintro e w2 ⟨⟨a, n, cap, rfl, hb⟩, hr, hg⟩
 have hp := cell_kept hg hne (box_cell w _ 133)
 have hn2 : n <= 2 := by have := takeR_len st 2; rw [hb.1] at this; omega
 have hnb := numOf_bd _ hb.2.1
 have hpw : pow256 (takeR st 2).1.length <= pow256 2 := pow256_mono (takeR_len st 2)
 rw [show pow256 2 = 65536 from by decide] at hpw
 obtain ⟨m, hm⟩ : ∃ m : Nat, numOf (takeR st 2).1 = (m : Int) := ⟨(numOf (takeR st 2).1).toNat, by omega⟩
 have hm1 : m <= 65535 := by omega
 have HT : Hid (textR st = takeR (takeR st 2).2 m) := by unfold Hid textR; rw [hm]; rfl
 clear hnb hpw
 go_wp2_with (go_at_call 93; refine (number_any a n cap _ _ (by omega) hb).mono ?_; rintro e w' ⟨rfl, rfl⟩; rw [hm])
 refine (taker_any Y _ b _ _ m hr hne hp).mono ?_
 rintro e w3 ⟨⟨a3, n3, cap3, rfl, hb3⟩, hr3, hg3⟩
 have hcv := run_text hb3 cap3
 go_wp2
 go_ret
 rw [HT.out]
 exact ⟨rfl, hr3, grown_trans (grown_trans g1 hg) hg3⟩
theorem read_any (a : Option Addr) (len cap : Nat) (l : List Int) (w : World) (hao : a = none -> cap = 0) (hlen : len <= 900000000) (hb : Bs w a len l) :
  Calls Tryz.prog 58 #[.slice a len cap] w fun e w' => ∃ b, e = .returned (.pointer (some ⟨b, 0, none⟩)) /\ Rd (· < w.heap.size) w' b (l, 0) /\ w.heap.size <= b /\ Below w.heap.size w w' := by
 go_enter Tryz.func58, Tryz.ntmps58
 go_wp2_with (go_at_call 49; refine (clone_any a len cap l _ hao hlen hb).mono ?_; rintro e w2 ⟨hb2, v, rfl, ho2⟩; obtain ⟨a2, cap2, rfl, hbs, hcap, hao2, _⟩ := owns_bs ho2 hb.2.1)
 go_ret
 have hx : ∀ x, a2 = some x -> x.spot = none /\ ¬ x.block < w.heap.size /\ ∃ C f, w2.heap[x.block]? = some (.cells C 5 f) := by
  intro x e
  rcases ho2.2 with ⟨e2, _⟩ | ⟨g, c, cur, e2, hgb, hh, _⟩
  ·cases e2; cases e
  ·cases e2; cases e; exact ⟨rfl, Nat.not_lt.2 hgb, cur, _, hh⟩
 have t2 : Two (w2.alloc (Obj.cells #[.slice a2 len cap2, .int .i64 0] 177)) w2.heap.size 177 (.slice a2 len cap2) (.int .i64 0) := by
  unfold Two
  show (w2.heap.push _)[w2.heap.size]? = _
  simp
 have hal : Below w2.heap.size w2 (w2.alloc (Obj.cells #[.slice a2 len cap2, .int .i64 0] 177)) := (Below.refl _ _).alloc (Nat.le_refl _) _
 refine ⟨_, rfl, ⟨⟨_, _, _, t2, hbs.below hal, hcap, hao2, fun x e => ⟨(hx x e).1, ?_⟩⟩, fun h => absurd rfl h⟩, hb2.size, hb2.alloc hb2.size _⟩
 obtain ⟨_, hy, C, f, hC⟩ := hx x e
 exact ⟨hy, C, f, by rw [hal.block _ (lt_of_block hC)]; exact hC⟩
theorem Rd.rd {Y : Nat -> Prop} {w : World} {b : Nat} {st : List Int × Int} (h : Rd Y w b st) : K.Rd w b st := by
 obtain ⟨a, n, cap, h2, hb, hc, hao, hx⟩ := h.ex
 refine ⟨⟨a, n, cap, h2, hb, hc, hao, fun x e => ?_⟩, h.no⟩
 obtain ⟨h1, hy, C, f, hC⟩ := hx x e
 exact ⟨h1, C, f, hC⟩
end Go.Proofs.YtmcgcbgblgmmkaaGreatDoor.G.R
