/-
  FMath FLeaf FGo FArgs FJoin FDMath FDMem FFrMath FFrMem FFrLeaf FFrHead.
-/
import Derived.WalkKit
import Derived.Test.YtmcgcbgblgmmkaaGreatDoorRows
import Derived.WalkSpells
import Derived.WalkLawsBesides
import Derived.OpenShut
import Derived.Laws.AppendOwnNone
import Derived.Laws.MakeOwn
import Derived.Laws.BytesArg
import Derived.Laws.Rows
import Derived.Laws.Tables
import Derived.Laws.CopyOwn
import Derived.Deep.AppendSrc
import Derived.Deep.Upon
import Derived.Deep.MidRow
import Derived.Laws.BitsAllLaws
import Derived.RegionTactic
import Derived.ChangeAlike
import Derived.BigRegion
import Derived.BigQuiet
import Derived.Deep.RegionHeld3
import Derived.Deep.DeepCutAuto
set_option maxRecDepth 100000
set_option maxHeartbeats 2000000
namespace Go.Proofs.YtmcgcbgblgmmkaaGreatDoor.F
def lowOf (s : Int) : Int := s % 65536 % 65521
def highOf (s : Int) : Int := s / 65536 % 65521
def stepS (p : Int × Int) (b : Int) : Int × Int := ((p.1 + b) % 65521, (p.2 + (p.1 + b) % 65521) % 65521)
def runS (p : Int × Int) (l : List Int) : Int × Int := l.foldl stepS p
def joinS (p : Int × Int) : Int := p.2 * 65536 + p.1
def goS (s : Int) (l : List Int) : Int := joinS (runS (lowOf s, highOf s) l)
def okS (p : Int × Int) : Prop := 0 <= p.1 /\ p.1 <= 65520 /\ 0 <= p.2 /\ p.2 <= 65520
theorem okS_start (s : Int) : okS (lowOf s, highOf s) := by
 unfold okS lowOf highOf; simp only; omega
theorem okS_step (p : Int × Int) (b : Int) : okS (stepS p b) := by
 unfold okS stepS; simp only; omega
theorem runS_snoc (p : Int × Int) (l : List Int) (b : Int) : runS p (l ++ [b]) = stepS (runS p l) b := by
 simp [runS, List.foldl_append]
theorem runS_app (p : Int × Int) (l m : List Int) : runS p (l ++ m) = runS (runS p l) m := by
 simp [runS, List.foldl_append]
theorem okS_run (p : Int × Int) (l : List Int) (h : okS p) : okS (runS p l) := by
 induction l generalizing p with
 | nil => exact h
 | cons b l ih => exact ih _ (okS_step p b)
theorem lowOf_join (p : Int × Int) (h : okS p) : lowOf (joinS p) = p.1 := by
 unfold okS at h; unfold lowOf joinS; omega
theorem highOf_join (p : Int × Int) (h : okS p) : highOf (joinS p) = p.2 := by
 unfold okS at h; unfold highOf joinS; omega
theorem take_snoc (l : List Int) (k : Nat) (h : k < l.length) : l.take (k + 1) = l.take k ++ [l.getD k 0] := by
 rw [List.take_succ_eq_append_getElem h]
 simp [List.getD_eq_getElem?_getD, List.getElem?_eq_getElem h]
open Go.RowKit
theorem ret_int {k : IntKind} {a b : Int} (h : a = b) : Ending.returned (.int k a) = .returned (.int k b) := by rw [h]
theorem parts_any (s : Int) (w : World) (h0 : 0 <= s) (h1 : s <= 4294967295) :
  Calls Tryz.prog 89 #[.int .u32 s] w fun e w' => e = .returned (.tuple #[.int .u32 (lowOf s), .int .u32 (highOf s)]) /\ w' = w := by
 go_enter Tryz.func89, Tryz.ntmps89
 go_wp2
 go_ret2
 exact ⟨rfl, rfl⟩
theorem whole_any (a b : Int) (w : World) (h0 : 0 <= a) (h1 : a <= 65520) (h2 : 0 <= b) (h3 : b <= 65520) :
  Calls Tryz.prog 90 #[.int .u32 a, .int .u32 b] w fun e w' => e = .returned (.int .u32 (b * 65536 + a)) /\ w' = w := by
 go_enter Tryz.func90, Tryz.ntmps90
 go_wp2
 go_ret
 exact ⟨rfl, rfl⟩
def Bs (w : World) (a : Option Addr) (len : Nat) (l : List Int) : Prop :=
 l.length = len /\ (∀ n ∈ l, 0 <= n /\ n <= 255) /\
 (0 < len -> ∃ b off, a = some ⟨b, off, none⟩ /\ ∀ i, i < len -> w.cell? ⟨b, off + i, none⟩ = some (.int .u8 (l.getD i 0)))
theorem Bs.byte {w : World} {a : Option Addr} {len : Nat} {l : List Int} (h : Bs w a len l) (k : Nat) : 0 <= l.getD k 0 /\ l.getD k 0 <= 255 := by
 rw [List.getD_eq_getElem?_getD]
 by_cases hk : k < l.length
 ·have := h.2.1 _ (List.getElem_mem hk)
  rw [List.getElem?_eq_getElem hk]; exact this
 ·rw [List.getElem?_eq_none (by omega)]; simp
theorem go_any (s : Int) (a : Option Addr) (len cap : Nat) (l : List Int) (w : World) (h0 : 0 <= s) (h1 : s <= 4294967295) (hlen : len <= 60000) (hb : Bs w a len l) :
  Calls Tryz.prog 50 #[.int .u32 s, .slice a len cap] w fun e w' => e = .returned (.int .u32 (goS s l)) /\ w' = w := by
 have hll := hb.1
 go_enter Tryz.func50, Tryz.ntmps50
 go_wp2_with (go_at_call 89; refine (parts_any s _ h0 h1).mono ?_; rintro e w' ⟨rfl, rfl⟩)
 go_loop [5, 6, 15] (fun x y i => ∃ k : Nat, k <= len /\ i = .int .i64 k /\ x = .int .u32 (runS (lowOf s, highOf s) (l.take k)).1 /\ y = .int .u32 (runS (lowOf s, highOf s) (l.take k)).2) (fun _ _ i => len - (intOf i).toNat)
 case atStart => exact ⟨0, Nat.zero_le _, rfl, rfl, rfl⟩
 case round =>
  obtain ⟨k, hk, rfl, rfl, rfl⟩ := hrel
  have hok := okS_run _ (l.take k) (okS_start s)
  generalize hp : runS (lowOf s, highOf s) (l.take k) = p at *
  have HP : Hid (runS (lowOf s, highOf s) (l.take k) = p) := hp
  clear hp
  obtain ⟨x, y⟩ := p
  simp only [okS] at hok
  obtain ⟨o1, o2, o3, o4⟩ := hok
  by_cases hlt : k < len
  ·obtain ⟨b, off, rfl, hc⟩ := hb.2.2 (by omega)
   have hck := hc k hlt
   clear hc
   obtain ⟨y1, y2⟩ := hb.byte k
   have HS : Hid (runS (lowOf s, highOf s) (l.take (k + 1)) = stepS (x, y) (l.getD k 0)) := by rw [take_snoc l k (by omega), runS_snoc, HP.out]; exact rfl
   generalize l.getD k 0 = c at *
   go_wp2
   go_round
   case rel => exact ⟨k + 1, by omega, by go_num, by rw [HS.out]; rfl, by rw [HS.out]; rfl⟩
   case measure => simp [intOf]; omega
  ·go_wp2_with (go_at_call 90; refine (whole_any x y _ o1 o2 o3 o4).mono ?_; rintro e w' ⟨rfl, rfl⟩)
   go_ret
   exact ⟨ret_int (by rw [List.take_of_length_le (by omega)] at HP; rw [goS, HP.out]; rfl), rfl⟩
theorem of_any (a : Option Addr) (len cap : Nat) (l : List Int) (w : World) (hlen : len <= 60000) (hb : Bs w a len l) :
  Calls Tryz.prog 51 #[.slice a len cap] w fun e w' => e = .returned (.int .u32 (goS 1 l)) /\ w' = w := by
 go_enter Tryz.func51, Tryz.ntmps51
 go_wp2_with (go_at_call 50; refine (go_any 1 a len cap l _ (by decide) (by decide) hlen hb).mono ?_; rintro e w' ⟨rfl, rfl⟩)
 go_ret
 exact ⟨rfl, rfl⟩
theorem Bs.below {w w' : World} {a : Option Addr} {len : Nat} {l : List Int} (h : Bs w a len l) (hb : Below w.heap.size w w') : Bs w' a len l := by
 refine ⟨h.1, h.2.1, fun h0 => ?_⟩
 obtain ⟨b, off, ha, hc⟩ := h.2.2 h0
 refine ⟨b, off, ha, fun i hi => ?_⟩
 rw [hb.cell (p := ⟨b, off + i, none⟩) (World.block_lt_of_cell? w _ (hc i hi))]
 exact hc i hi
theorem Tryz.info5 : (Tryz.prog.info? 5).map (fun i => (i.zero, i.size, i.bytes)) = some (some (.int .u8 0), 1, 1) := by kernel_rfl
def cellsB (l : List Int) : List Value := l.map (Value.int .u8)
theorem cellsB_app (l m : List Int) : cellsB (l ++ m) = cellsB l ++ cellsB m := by simp [cellsB]
theorem Bs.nil {w : World} {len : Nat} {l : List Int} (h : Bs w none len l) : len = 0 /\ l = [] := by
 have h0 : len = 0 := by
  rcases Nat.eq_zero_or_pos len with e | e
  ·exact e
  ·obtain ⟨_, _, e, _⟩ := h.2.2 e
   cases e
 exact ⟨h0, List.eq_nil_of_length_eq_zero (by rw [h.1, h0])⟩
theorem Bs.news {w : World} {x : Addr} {len : Nat} {l : List Int} (h : Bs w (some x) len l) : ∀ j u, (cellsB l)[j]? = some u -> w.cell? (x.add j) = some u := by
 intro j u hu
 have hj : j < l.length := by
  have := (List.getElem?_eq_some_iff.1 hu).1
  simpa [cellsB] using this
 obtain ⟨b, off, e, hc⟩ := h.2.2 (by have := h.1; omega)
 cases e
 have := hc j (by have := h.1; omega)
 rw [show (⟨b, off + j, none⟩ : Addr) = (⟨b, off, none⟩ : Addr).add j from by unfold Addr.add; split <;> simp_all] at this
 rw [this]
 simp [cellsB, List.getElem?_eq_getElem hj] at hu ⊢
 exact hu
theorem grow_refl (w : World) (r : Option Nat) : w.grownBy w r := ⟨rfl, rfl, rfl, Nat.le_refl _, fun _ _ _ => rfl⟩
theorem below_drewN (w : World) (n : Nat) : Below w.heap.size w (w.drewN n) := by
 exact ⟨rfl, rfl, rfl, Nat.le_refl _, fun _ _ => rfl⟩
theorem goS_bd (s : Int) (l : List Int) : 0 <= goS s l /\ goS s l <= 4294967295 := by
 have := okS_run _ l (okS_start s)
 unfold okS at this
 unfold goS joinS
 omega
theorem goS_app (s : Int) (l m : List Int) : goS (goS s l) m = goS s (l ++ m) := by
 have h := okS_run _ l (okS_start s)
 show joinS (runS (lowOf (joinS (runS (lowOf s, highOf s) l)), highOf (joinS (runS (lowOf s, highOf s) l))) m) = joinS (runS (lowOf s, highOf s) (l ++ m))
 rw [lowOf_join _ h, highOf_join _ h, runS_app]
end Go.Proofs.YtmcgcbgblgmmkaaGreatDoor.F
namespace Go.Proofs.YtmcgcbgblgmmkaaGreatDoor.F.D
def Byt (l : List Int) : Prop := ∀ z ∈ l, 0 <= z /\ z <= 255
open Go.RowKit
theorem ret_bool {a b : Bool} (h : a = b) : Ending.returned (.bool a) = .returned (.bool b) := by rw [h]
def Bs (w : World) (a : Option Addr) (len : Nat) (l : List Int) : Prop :=
 l.length = len /\ Byt l /\
 (0 < len -> ∃ b off, a = some ⟨b, off, none⟩ /\ ∀ i, i < len -> w.cell? ⟨b, off + i, none⟩ = some (.int .u8 (l.getD i 0)))
theorem Bs.sub {w : World} {b off len : Nat} {l : List Int} (h : Bs w (some ⟨b, off, none⟩) len l) (i m : Nat) (hm : i + m <= len) : Bs w (some ⟨b, off + i, none⟩) m ((l.drop i).take m) := by
 refine ⟨by rw [List.length_take, List.length_drop, h.1]; omega, fun z hz => h.2.1 z (List.mem_of_mem_drop (List.mem_of_mem_take hz)), fun h0 => ⟨b, off + i, rfl, fun j hj => ?_⟩⟩
 obtain ⟨_, _, e, hc⟩ := h.2.2 (by omega)
 cases e
 rw [Nat.add_assoc, hc (i + j) (by omega)]
 simp [hj]
theorem size_alloc' (w : World) (o : Obj) : (w.alloc o).heap.size = w.heap.size + 1 := by
 show (w.heap.push o).size = _
 simp
def Blk (w : World) (b : Nat) (t : TypeId) (l : List Value) : Prop := w.heap[b]? = some (.cells l.toArray t (0, 0))
section
variable {w : World} {b : Nat} {t : TypeId} {l : List Value}
theorem Blk.cell (h : Blk w b t l) (i : Nat) : w.cell? ⟨b, i, none⟩ = l[i]? := by
 rw [cell_of_row w b i _ _ _ h]
 simp
theorem Blk.f (h : Blk w b t l) (i : Nat) : w.frozen? ⟨b, i, none⟩ = false := frozen_of_row w b i _ _ h
theorem Blk.lt (h : Blk w b t l) : b < w.heap.size := lt_of_block h
theorem Blk.below {w' : World} {B : Nat} (h : Blk w b t l) (hb : Below B w w') (hB : b < B) : Blk w' b t l := by unfold Blk; rw [hb.block b hB]; exact h
theorem Blk.over {w' : World} (h : Blk w b t l) (hb : Below w.heap.size w w') : Blk w' b t l := h.below hb h.lt
theorem Blk.drew (h : Blk w b t l) : Blk w.drew b t l := h
theorem Blk.set (h : Blk w b t l) (i : Nat) (v : Value) : Blk (w.setCell ⟨b, i, none⟩ v) b t (l.set i v) := by
 have := heap_setCell_same w b i _ _ v h
 unfold Blk
 rw [this]
 simp
end
theorem blk_new (w : World) (cs : Array Value) (t : TypeId) : Blk (w.alloc (Obj.cells cs t)) w.heap.size t cs.toList := by
 unfold Blk
 rw [heap_alloc_new]
end Go.Proofs.YtmcgcbgblgmmkaaGreatDoor.F.D
namespace Go.Proofs.YtmcgcbgblgmmkaaGreatDoor.F
def two (n : Nat) : List Int := [(n : Int) / 256, (n : Int) % 256]
def four (s : Int) : List Int := [s / 16777216, s / 65536 % 256, s / 256 % 256, s % 256]
def frm (sm : List Int -> Int) (b : List Int) : List Int := [102, 76] ++ (two b.length ++ (four (sm (two b.length ++ b)) ++ b))
theorem frm_len (sm : List Int -> Int) (b : List Int) : (frm sm b).length = b.length + 8 := by simp [frm, two, four]
def told (l : List Int) : Nat := (l.getD 2 0 * 256 + l.getD 3 0).toNat
def body (l : List Int) : List Int := (l.drop 8).take (told l)
def Std (sm : List Int -> Int) (l : List Int) : Prop := 1 <= told l /\ told l <= 512 /\ told l + 8 <= l.length /\ l.take (told l + 8) = frm sm (body l)
def Mgt (l : List Int) : Prop := (0 < l.length -> l.getD 0 0 = 102) /\ (1 < l.length -> l.getD 1 0 = 76) /\ (2 < l.length -> l.getD 2 0 <= 2) /\ (4 <= l.length -> 1 <= told l /\ told l <= 512 /\ l.length < told l + 8)
theorem getD_app {l m : List Int} {i : Nat} (h : i < l.length) : (l ++ m).getD i 0 = l.getD i 0 := by
 rw [List.getD_eq_getElem?_getD, List.getElem?_append_left h, <- List.getD_eq_getElem?_getD]
theorem body_len {sm : List Int -> Int} {l : List Int} (h : Std sm l) : (body l).length = told l := by
 unfold body
 rw [List.length_take, List.length_drop]
 have := h.2.2.1
 omega
theorem std_head {sm : List Int -> Int} {l : List Int} (h : Std sm l) : l.getD 0 0 = 102 /\ l.getD 1 0 = 76 /\ l.getD 2 0 <= 2 := by
 have hb := body_len h
 obtain ⟨h1, h2, h3, h4⟩ := h
 have key : ∀ i, i < told l + 8 -> l.getD i 0 = (frm sm (body l)).getD i 0 := fun i hi => by
  rw [<- h4, List.getD_eq_getElem?_getD, List.getD_eq_getElem?_getD, List.getElem?_take_of_lt hi]
 have k0 := key 0 (by omega)
 have k1 := key 1 (by omega)
 have k2 := key 2 (by omega)
 refine ⟨k0, k1, ?_⟩
 rw [k2]
 show ((body l).length : Int) / 256 <= 2
 rw [hb]
 omega
def stdB (sm : List Int -> Int) (l : List Int) : Bool := decide (1 <= told l /\ told l <= 512 /\ told l + 8 <= l.length /\ l.take (told l + 8) = frm sm (body l))
def mgtB (l : List Int) : Bool := decide ((0 < l.length -> l.getD 0 0 = 102) /\ (1 < l.length -> l.getD 1 0 = 76) /\ (2 < l.length -> l.getD 2 0 <= 2) /\ (4 <= l.length -> 1 <= told l /\ told l <= 512 /\ l.length < told l + 8))
theorem stdB_iff {sm : List Int -> Int} {l : List Int} : stdB sm l = true ↔ Std sm l := decide_eq_true_iff
theorem mgtB_iff {l : List Int} : mgtB l = true ↔ Mgt l := decide_eq_true_iff
def nxt (sm : List Int -> Int) : List Int -> Nat × Option (List Int) × List Int
 | [] => (0, none, [])
 | x :: r => if stdB sm (x :: r) = true then (0, some (body (x :: r)), (x :: r).drop (told (x :: r) + 8)) else if mgtB (x :: r) = true then (0, none, x :: r) else ((nxt sm r).1 + 1, (nxt sm r).2)
theorem nxt_std {sm : List Int -> Int} {l : List Int} (h : Std sm l) : nxt sm l = (0, some (body l), l.drop (told l + 8)) := by
 cases l with
 | nil => exact absurd h.2.2.1 (by simp)
 | cons x r => unfold nxt; rw [if_pos (stdB_iff.2 h)]
theorem nxt_mgt {sm : List Int -> Int} {x : Int} {r : List Int} (h1 : ¬ Std sm (x :: r)) (h2 : Mgt (x :: r)) : nxt sm (x :: r) = (0, none, x :: r) := by
 unfold nxt
 rw [if_neg (fun h => h1 (stdB_iff.1 h)), if_pos (mgtB_iff.2 h2)]
theorem nxt_lose {sm : List Int -> Int} {x : Int} {r : List Int} (h1 : ¬ Std sm (x :: r)) (h2 : ¬ Mgt (x :: r)) : nxt sm (x :: r) = ((nxt sm r).1 + 1, (nxt sm r).2) := by
 rw [nxt, if_neg (fun h => h1 (stdB_iff.1 h)), if_neg (fun h => h2 (mgtB_iff.1 h))]
theorem frm_std {sm : List Int -> Int} {b : List Int} (m : List Int) (h1 : 1 <= b.length) (h2 : b.length <= 512) : Std sm (frm sm b ++ m) /\ body (frm sm b ++ m) = b /\ told (frm sm b ++ m) = b.length := by
 have e1 : told (frm sm b ++ m) = b.length := by
  show ((b.length : Int) / 256 * 256 + (b.length : Int) % 256).toNat = b.length
  omega
 have e2 : body (frm sm b ++ m) = b := by
  unfold body
  rw [e1]
  show (b ++ m).take b.length = b
  exact List.take_left
 refine ⟨⟨by rw [e1]; exact h1, by rw [e1]; exact h2, by rw [e1, List.length_append, frm_len]; omega, ?_⟩, e2, e1⟩
 rw [e1, e2, <- frm_len sm b]
 exact List.take_left
theorem frm_nxt {sm : List Int -> Int} {b : List Int} (m : List Int) (h1 : 1 <= b.length) (h2 : b.length <= 512) : nxt sm (frm sm b ++ m) = (0, some b, m) := by
 obtain ⟨q1, q2, q3⟩ := frm_std (sm := sm) m h1 h2
 rw [nxt_std q1, q2, q3, <- frm_len sm b, List.drop_left]
open Go.RowKit D
def Wt (w : World) (v : Value) (l : List Int) : Prop :=
 (∀ n ∈ l, 0 <= n /\ n <= 255) /\ ((v = .slice none 0 0 /\ l = []) \/
 ∃ g off cap, v = .slice (some ⟨g, off, none⟩) l.length cap /\ l.length <= cap /\ cap <= maxLen /\ g < w.heap.size /\ (∀ i, i < cap -> (w.cell? ⟨g, off + i, none⟩).isSome = true) /\ (∀ i, w.frozen? ⟨g, i, none⟩ = false) /\
  (∀ i, i < l.length -> w.cell? ⟨g, off + i, none⟩ = some (.int .u8 (l.getD i 0))))
theorem wt_nil (w : World) : Wt w (.slice none 0 0) [] := ⟨(fun _ h => by cases h), .inl ⟨rfl, rfl⟩⟩
theorem Wt.slice {w : World} {v : Value} {l : List Int} (h : Wt w v l) : ∃ a cap, v = .slice a l.length cap /\ Bs w a l.length l /\ l.length <= cap /\ cap <= maxLen /\ (a = none -> cap = 0) := by
 obtain ⟨hl, ⟨rfl, rfl⟩ | ⟨g, off, cap, rfl, h1, h2, h3, h4, h5, h6⟩⟩ := h
 ·exact ⟨none, 0, rfl, ⟨rfl, (fun _ h => by cases h), fun h => absurd h (by decide)⟩, Nat.le_refl _, by decide, fun _ => rfl⟩
 ·exact ⟨_, cap, rfl, ⟨rfl, hl, fun _ => ⟨g, off, rfl, h6⟩⟩, h1, h2, fun e => by cases e⟩
theorem Wt.kept {w w' : World} {v : Value} {l : List Int} (h : Wt w v l) (hs : w.heap.size <= w'.heap.size) (hk : ∀ k, v.ownBlock = some k -> w'.heap[k]? = w.heap[k]?) : Wt w' v l := by
 obtain ⟨hl, ⟨rfl, rfl⟩ | ⟨g, off, cap, rfl, h1, h2, h3, h4, h5, h6⟩⟩ := h
 ·exact wt_nil _
 ·have e := hk g rfl
  have ec : ∀ i, w'.cell? ⟨g, i, none⟩ = w.cell? ⟨g, i, none⟩ := fun i => World.cell?_of_block e
  have ef : ∀ i, w'.frozen? ⟨g, i, none⟩ = w.frozen? ⟨g, i, none⟩ := fun i => by simp only [World.frozen?, e]
  exact ⟨hl, .inr ⟨g, off, cap, rfl, h1, h2, Nat.lt_of_lt_of_le h3 hs, fun i hi => by rw [ec]; exact h4 i hi, fun i => by rw [ef]; exact h5 i, fun i hi => by rw [ec]; exact h6 i hi⟩⟩
theorem Wt.lt {w : World} {v : Value} {l : List Int} (h : Wt w v l) : ∀ k, v.ownBlock = some k -> k < w.heap.size := by
 obtain ⟨hl, ⟨rfl, rfl⟩ | ⟨g, off, cap, rfl, h1, h2, h3, h4, h5, h6⟩⟩ := h
 ·intro k hk; cases hk
 ·intro k hk; cases hk; exact h3
theorem Wt.drop {w : World} {g off cap : Nat} {l : List Int} (h : Wt w (.slice (some ⟨g, off, none⟩) l.length cap) l) (n : Nat) (hn : n <= l.length) : Wt w (.slice (some ⟨g, off + n, none⟩) (l.length - n) (cap - n)) (l.drop n) := by
 obtain ⟨hl, ⟨h, rfl⟩ | ⟨g, off, cap, h, h1, h2, h3, h4, h5, h6⟩⟩ := h
 ·cases h
 ·cases h
  refine ⟨fun z hz => hl z (List.mem_of_mem_drop hz), .inr ⟨g, off + n, cap - n, by rw [List.length_drop], by rw [List.length_drop]; omega, by omega, h3, fun i hi => by rw [Nat.add_assoc]; exact h4 _ (by omega), h5, fun i hi => ?_⟩⟩
  rw [List.length_drop] at hi
  rw [Nat.add_assoc, h6 _ (by omega), List.getD_eq_getElem?_getD, List.getD_eq_getElem?_getD, List.getElem?_drop]
theorem Wt.done {w : World} {g off cap : Nat} {l : List Int} (h : Wt w (.slice (some ⟨g, off, none⟩) l.length cap) l) : Wt w (.slice (some ⟨g, off, none⟩) 0 0) [] := by
 obtain ⟨hl, ⟨h, rfl⟩ | ⟨g, off, cap, h, h1, h2, h3, h4, h5, h6⟩⟩ := h
 ·cases h
 ·cases h
  exact ⟨(fun _ h => by cases h), .inr ⟨g, off, 0, rfl, Nat.le_refl _, by decide, h3, fun i hi => absurd hi (Nat.not_lt_zero _), h5, fun i hi => absurd hi (Nat.not_lt_zero _)⟩⟩
theorem setCells_size (b : Nat) : ∀ (vs : List Value) (o : Nat) (w : World), (w.setCells b o vs).heap.size = w.heap.size
 | [], _, _ => rfl
 | _ :: r, o, w => by rw [World.setCells, setCells_size b r]; simp
theorem setCells_tape (b : Nat) : ∀ (vs : List Value) (o : Nat) (w : World), (w.setCells b o vs).tape = w.tape
 | [], _, _ => rfl
 | _ :: r, o, w => by rw [World.setCells, setCells_tape b r]; simp
theorem getD_left {l k : List Int} {i : Nat} (h : i < l.length) : (l ++ k).getD i 0 = l.getD i 0 := getD_app h
theorem getD_right {l k : List Int} {i : Nat} : (l ++ k).getD (l.length + i) 0 = k.getD i 0 := by
 rw [List.getD_eq_getElem?_getD, List.getElem?_append_right (by omega), <- List.getD_eq_getElem?_getD]
 congr 1
 omega
theorem src_of {w : World} {ao : Option Addr} {m c : Nat} {k : List Int} (hb : Bs w ao m k) (hao : ao = none -> c = 0) : Src Tryz.prog 1 37 (.slice ao m c) m (cellsB k) w := by
 cases ao with
 | none =>
  obtain ⟨rfl, rfl⟩ := hb.nil
  exact Src.ofNil w Tryz.underlying37 c
 | some ad => exact Src.ofSlice w Tryz.underlying37 ad m c (cellsB k) (by simp [cellsB, hb.1]) hb.news (by intro u hu; simp [cellsB] at hu; obtain ⟨z, _, rfl⟩ := hu; rfl)
theorem wt_new (w : World) (l : List Int) (hl : ∀ n ∈ l, 0 <= n /\ n <= 255) (cap : Nat) (zs : Array Value) (h1 : l.length <= cap) (h2 : cap <= maxLen) (hz : zs.size = cap - l.length) : Wt (w.alloc (.cells ((cellsB l).toArray ++ zs) 5)) (.slice (some ⟨w.heap.size, 0, none⟩) l.length cap) l := by
 have hcl : (cellsB l).length = l.length := by simp [cellsB]
 refine ⟨hl, .inr ⟨_, 0, cap, rfl, h1, h2, by rw [size_alloc']; omega, fun i hi => ?_, fun i => ?_, fun i hi => ?_⟩⟩
 ·rw [Nat.zero_add, World.cell?_alloc_mark, Array.getElem?_eq_getElem (by simp [hcl]; omega)]
  rfl
 ·simp
 ·rw [Nat.zero_add, World.cell?_alloc_mark, Array.getElem?_append_left (by simpa [cellsB] using hi), List.getElem?_toArray]
  unfold cellsB
  rw [List.getElem?_map, List.getElem?_eq_getElem hi, List.getD_eq_getElem?_getD, List.getElem?_eq_getElem hi]
  rfl
theorem grown_alloc (w : World) (o : Obj) (r : Option Nat) : w.grownBy (w.drew.alloc o) r := ⟨rfl, rfl, rfl, by simp, fun k hk _ => heap_alloc_old w.drew o hk⟩
theorem run_append_wt (w : World) (ty : TypeId) (v : Value) (l : List Int) (h : Wt w v l) (ao : Option Addr) (m c : Nat) (k : List Int) (hb : Bs w ao m k) (hao : ao = none -> c = 0) (hn : l.length + m <= 100000) :
  ∃ v' w', (Builtin.append_ #[37, 37] ty #[v, .slice ao m c]).run Tryz.prog w = .ok v' w' /\ Wt w' v' (l ++ k) /\ w.grownBy w' v.ownBlock /\ (v'.ownBlock = v.ownBlock \/ v'.ownBlock = some w.heap.size) := by
 obtain ⟨i0, hi, hz0, hz1, hz2⟩ := info_parts Tryz.info5
 have hsrc : Src Tryz.prog i0.size 37 (.slice ao m c) m (cellsB k) w := by rw [hz1]; exact src_of hb hao
 have hk : k.length = m := hb.1
 have hlk : ∀ n ∈ l ++ k, 0 <= n /\ n <= 255 := fun n hn => by
  rcases List.mem_append.1 hn with h' | h'
  ·exact h.1 n h'
  ·exact hb.2.1 n h'
 have grow : ∀ (base : Option Addr) (cap : Nat), v = .slice base l.length cap -> (Builtin.firstCells i0.size l.length (.slice base l.length cap)).run Tryz.prog w.drew = .ok (cellsB l).toArray w.drew -> cap < l.length + m ->
   ∃ v' w', (Builtin.append_ #[37, 37] ty #[v, .slice ao m c]).run Tryz.prog w = .ok v' w' /\ Wt w' v' (l ++ k) /\ w.grownBy w' v.ownBlock /\ (v'.ownBlock = v.ownBlock \/ v'.ownBlock = some w.heap.size) := by
  intro base cap hv hold hlt
  subst hv
  have hr := run_append_grow_src (P := Tryz.prog) w 37 37 ty 5 i0 (.int .u8 0) Tryz.underlying37 hi hz0 base l.length cap (cellsB l) hold (.slice ao m c) m (cellsB k) hsrc hlt (by omega) (growslice_fits (by omega) (by rw [hz2]; omega))
  refine ⟨_, _, hr, ?_, grown_alloc w _ _, .inr rfl⟩
  have := wt_new w.drew (l ++ k) hlk (grownCap w (l.length + m) cap 5) (Builtin.zeroCells (Value.int .u8 0).cells (grownCap w (l.length + m) cap 5 - (l.length + m))) (by rw [List.length_append, hk]; exact grownCap_ge _ _ _ _) (grownCap_le_maxLen _ _ _ _ (by unfold maxLen; omega)) (by rw [size_zeroCells, List.length_append, hk]; simp [Value.cells])
  rw [cellsB_app, List.length_append, hk] at this
  exact this
 obtain ⟨hl, ⟨rfl, rfl⟩ | ⟨g, off, cap, rfl, h1, h2, h3, h4, h5, h6⟩⟩ := h
 ·rcases Nat.eq_zero_or_pos m with hm | hm
  ·subst hm
   obtain rfl : k = [] := List.eq_nil_of_length_eq_zero hk
   refine ⟨.slice none 0 0, w, ?_, wt_nil _, grow_refl _ _, .inl rfl⟩
   have hc0 := hsrc.cells
   simp [Builtin.append_, run_underlying Tryz.underlying37, sizeOf, typeInfo, hi, hsrc.len, hc0, cellsB]
  ·exact grow none 0 rfl (run_firstCells_none w.drew i0.size 0 0 0) (by simpa using hm)
 ·rcases Nat.lt_or_ge cap (l.length + m) with hlt | hge
  ·refine grow _ cap rfl ?_ hlt
   rw [hz1]
   refine run_firstCells_some w.drew 1 l.length ⟨g, off, none⟩ l.length cap (cellsB l) (by simp [cellsB]) ?_
   intro j u hu
   have hj : j < l.length := by have := (List.getElem?_eq_some_iff.1 hu).1; simpa [cellsB] using this
   have := h6 j hj
   rw [Addr.add_lit]
   show w.cell? _ = _
   rw [this]
   simp [cellsB, List.getElem?_eq_getElem hj] at hu ⊢
   exact hu
  ·have hcl : (cellsB k).length = m := by simp [cellsB, hk]
   have hr := run_append_room_src (P := Tryz.prog) w 37 37 ty 5 i0 Tryz.underlying37 hi g off l.length cap (.slice ao m c) m (cellsB k) hsrc hge
    (fun j hj => by rw [hz1, Nat.mul_one, Nat.add_assoc]; exact h4 _ (by omega)) (fun j hj => h5 _)
   rw [hz1, Nat.mul_one] at hr
   refine ⟨_, _, hr, ⟨hlk, .inr ⟨g, off, cap, by rw [List.length_append, hk], by rw [List.length_append, hk]; exact hge, h2, ?_, fun i hi => ?_, fun i => ?_, fun i hi => ?_⟩⟩, ?_, .inl rfl⟩
   ·rw [setCells_size]; exact h3
   ·exact World.isSome_setCells _ _ _ _ _ (h4 i hi)
   ·rw [World.frozen?_setCells]; exact h5 i
   ·rw [List.length_append] at hi
    rcases Nat.lt_or_ge i l.length with h' | h'
    ·rw [World.cell?_setCells_out _ _ _ _ _ (fun _ _ => .inl (by show off + i < off + l.length; omega)), getD_left h']
     exact h6 i h'
    ·obtain ⟨j, rfl⟩ : ∃ j, i = l.length + j := ⟨i - l.length, by omega⟩
     rw [getD_right, <- Nat.add_assoc, World.cell?_setCells_in _ _ _ _ (fun j hj => by rw [Nat.add_assoc]; exact h4 _ (by omega)) j (by omega)]
     have hj : j < k.length := by omega
     simp [cellsB, List.getElem?_eq_getElem hj]
   ·exact ⟨World.os_setCells .., setCells_tape .., World.output_setCells .., by rw [setCells_size]; exact Nat.le_refl _, fun j hj hne => World.heap_setCells_other w g _ _ hj (fun e => hne (by rw [e]; rfl))⟩
theorem or64 (a b : Int) (a0 : 0 <= a) (a1 : a <= 255) (b0 : 0 <= b) (b1 : b <= 255) : bits BinOp.or IntKind.i64 (a * 256) b = a * 256 + b := by
 obtain ⟨n, rfl⟩ := Int.eq_ofNat_of_zero_le a0
 obtain ⟨m, rfl⟩ := Int.eq_ofNat_of_zero_le b0
 have e : ((n : Int) * 256) = ((n * 256 : Nat) : Int) := by omega
 rw [e]
 show IntKind.i64.wrap ((BitVec.ofInt 64 ((n * 256 : Nat) : Int) ||| BitVec.ofInt 64 (m : Int)).toNat : Int) = _
 have h1 := ofInt_u64 (n * 256) (by omega)
 have h2 := ofInt_u64 m (by omega)
 rw [BitVec.toNat_or, h1, h2, nat_join 8 (n * 256) m (by omega) (by omega)]
 simp [IntKind.wrap, IntKind.bits, IntKind.signed]
 omega
theorem or32 (a b : Int) (s : Nat) (p : Int) (hp : p = ((2 ^ s : Nat) : Int)) (a0 : 0 <= a) (a1 : a * p < 4294967296) (b0 : 0 <= b) (b1 : b < p) (hs : p <= 4294967296) : bits BinOp.or IntKind.u32 (a * p) b = a * p + b := by
 obtain ⟨n, rfl⟩ := Int.eq_ofNat_of_zero_le a0
 obtain ⟨m, rfl⟩ := Int.eq_ofNat_of_zero_le b0
 subst hp
 have e : ((n : Int) * ((2 ^ s : Nat) : Int)) = ((n * 2 ^ s : Nat) : Int) := by rw [Int.natCast_mul]
 rw [e] at a1 ⊢
 rw [u32_or_nat (n * 2 ^ s) m (by omega) (by omega), nat_join s (n * 2 ^ s) m (Nat.mul_mod_left _ _) (by omega)]
 omega
theorem told_at {l : List Int} (h : ∀ i, 0 <= l.getD i 0 /\ l.getD i 0 <= 255) : (told l : Int) = l.getD 2 0 * 256 + l.getD 3 0 := by
 unfold told
 have := h 2
 have := h 3
 omega
theorem length_any (a : Option Addr) (len cap : Nat) (l : List Int) (w : World) (h4 : 4 <= len) (hb : Bs w a len l) :
  Calls Tryz.prog 55 #[.slice a len cap] w fun e w' => e = .returned (.int .i64 (told l)) /\ Below w.heap.size w w' := by
 have hbb := hb.byte
 have ht := told_at hbb
 obtain ⟨b, off, rfl, hc⟩ := hb.2.2 (by omega)
 have q2 := hc 2 (by omega)
 have q3 := hc 3 (by omega)
 obtain ⟨x0, x1⟩ := hbb 2
 obtain ⟨y0, y1⟩ := hbb 3
 rw [ht]
 clear hc hb hbb ht
 generalize l.getD 2 0 = x at *
 generalize l.getD 3 0 = y at *
 have V : Hid (bits BinOp.or IntKind.i64 (x * 256) y = x * 256 + y) := or64 x y x0 x1 y0 y1
 have i2 : (2 : Int) < (len : Int) := by omega
 have i3 : (3 : Int) < (len : Int) := by omega
 go_enter Tryz.func55, Tryz.ntmps55
 go_upto_region 1 with fail
 go_quiet (fail)
 go_wp2_with fail
 go_ret
 exact ⟨ret_int V.out, below_drewN _ _⟩
def Bgn (l : List Int) : Prop := (0 < l.length -> l.getD 0 0 = 102) /\ (1 < l.length -> l.getD 1 0 = 76) /\ (l.length = 3 -> l.getD 2 0 <= 2) /\ (3 < l.length -> 1 <= told l /\ told l <= 512)
def bgB (l : List Int) : Bool := decide ((0 < l.length -> l.getD 0 0 = 102) /\ (1 < l.length -> l.getD 1 0 = 76) /\ (l.length = 3 -> l.getD 2 0 <= 2) /\ (3 < l.length -> 1 <= told l /\ told l <= 512))
theorem bgB_iff {l : List Int} : bgB l = true ↔ Bgn l := decide_eq_true_iff
theorem bg_yes {l : List Int} (h : Bgn l) : bgB l = true := bgB_iff.2 h
theorem bg_no {l : List Int} (h : ¬ Bgn l) : bgB l = false := by
 cases hq : bgB l with
 | false => rfl
 | true => exact absurd (bgB_iff.1 hq) h
theorem begins_any (a : Option Addr) (len cap : Nat) (l : List Int) (w : World) (hb : Bs w a len l) :
  Calls Tryz.prog 54 #[.slice a len cap] w fun e w' => e = .returned (.bool (bgB l)) /\ Below w.heap.size w w' := by
 have hbb := hb.byte
 have hll := hb.1
 rcases Nat.eq_zero_or_pos len with h0 | h0
 ·have HB : Hid (Bgn l) := ⟨fun h => absurd h (by omega), fun h => absurd h (by omega), fun h => absurd h (by omega), fun h => absurd h (by omega)⟩
  subst h0
  clear hb hbb hll
  go_enter Tryz.func54, Tryz.ntmps54
  go_wp2
  go_ret
  exact ⟨ret_bool (bg_yes HB.out).symm, Below.refl _ _⟩
 have HL : 4 <= len -> Hid (∀ W, Below w.heap.size w W -> Calls Tryz.prog 55 #[.slice a len cap] W fun e w' => e = .returned (.int .i64 (told l)) /\ Below w.heap.size w w') := fun h4 W hW => (length_any a len cap l W h4 (hb.below hW)).mono fun e w' ⟨h1, h2⟩ => ⟨h1, hW.trans (h2.mono hW.size)⟩
 obtain ⟨b, off, rfl, hc⟩ := hb.2.2 h0
 have q0 := hc 0 h0
 rw [Nat.add_zero] at q0
 by_cases e0 : l.getD 0 0 = 102
 case neg =>
  have HB : Hid (¬ Bgn l) := fun h => e0 (h.1 (by omega))
  clear hb hbb hll hc HL
  generalize l.getD 0 0 = x at *
  go_enter Tryz.func54, Tryz.ntmps54
  go_wp2
  go_ret
  exact ⟨ret_bool (bg_no HB.out).symm, Below.refl _ _⟩
 rw [e0] at q0
 rcases Nat.lt_or_ge len 2 with h1 | h1
 ·have HB : Hid (Bgn l) := ⟨fun _ => e0, fun h => absurd h (by omega), fun h => absurd h (by omega), fun h => absurd h (by omega)⟩
  clear hb hbb hll hc HL
  go_enter Tryz.func54, Tryz.ntmps54
  go_wp2
  go_ret
  exact ⟨ret_bool (bg_yes HB.out).symm, Below.refl _ _⟩
 have q1 := hc 1 (by omega)
 by_cases e1 : l.getD 1 0 = 76
 case neg =>
  have HB : Hid (¬ Bgn l) := fun h => e1 (h.2.1 (by omega))
  clear hb hbb hll hc HL e0
  generalize l.getD 1 0 = x at *
  go_enter Tryz.func54, Tryz.ntmps54
  go_wp2
  go_ret
  exact ⟨ret_bool (bg_no HB.out).symm, Below.refl _ _⟩
 rw [e1] at q1
 rcases Nat.lt_or_ge len 3 with h2 | h2
 ·have HB : Hid (Bgn l) := ⟨fun _ => e0, fun _ => e1, fun h => absurd h (by omega), fun h => absurd h (by omega)⟩
  clear hb hbb hll hc HL e0 e1
  go_enter Tryz.func54, Tryz.ntmps54
  go_wp2
  go_ret
  exact ⟨ret_bool (bg_yes HB.out).symm, Below.refl _ _⟩
 rcases Nat.lt_or_ge len 4 with h3 | h3
 ·have q2 := hc 2 (by omega)
  have HB : Hid (Bgn l ↔ l.getD 2 0 <= 2) := ⟨fun h => h.2.2.1 (by omega), fun h => ⟨fun _ => e0, fun _ => e1, fun _ => h, fun h => absurd h (by omega)⟩⟩
  clear hb hbb hll hc HL e0 e1
  generalize l.getD 2 0 = x at *
  by_cases e2 : x <= 2
  ·have HB : Hid (Bgn l) := HB.out.2 e2
   go_enter Tryz.func54, Tryz.ntmps54
   go_wp2
   go_ret
   exact ⟨ret_bool (bg_yes HB.out).symm, Below.refl _ _⟩
  ·have HB : Hid (¬ Bgn l) := fun h => e2 (HB.out.1 h)
   go_enter Tryz.func54, Tryz.ntmps54
   go_wp2
   go_ret
   exact ⟨ret_bool (bg_no HB.out).symm, Below.refl _ _⟩
 have HB : Hid (Bgn l ↔ 1 <= told l /\ told l <= 512) := ⟨fun h => h.2.2.2 (by omega), fun h => ⟨fun _ => e0, fun _ => e1, fun h => absurd h (by omega), fun _ => h⟩⟩
 replace HL := HL h3
 clear hb hbb hll hc e0 e1
 generalize told l = n at *
 by_cases e2 : 1 <= n
 ·by_cases e3 : n <= 512
  ·go_enter Tryz.func54, Tryz.ntmps54
   go_wp2_with (go_at_call 55; refine (HL.out _ (by first | exact Below.refl _ _ | assumption)).mono ?_; rintro e w1 ⟨rfl, hbl⟩)
   go_ret
   exact ⟨ret_bool (by rw [bg_yes (HB.out.2 ⟨e2, e3⟩)]; simp; omega), by assumption⟩
  ·go_enter Tryz.func54, Tryz.ntmps54
   go_wp2_with (go_at_call 55; refine (HL.out _ (by first | exact Below.refl _ _ | assumption)).mono ?_; rintro e w1 ⟨rfl, hbl⟩)
   go_ret
   exact ⟨ret_bool (by rw [bg_no fun h => e3 (HB.out.1 h).2]; simp; omega), by assumption⟩
 ·go_enter Tryz.func54, Tryz.ntmps54
  go_wp2_with (go_at_call 55; refine (HL.out _ (by first | exact Below.refl _ _ | assumption)).mono ?_; rintro e w1 ⟨rfl, hbl⟩)
  go_ret
  exact ⟨ret_bool (bg_no fun h => e2 (HB.out.1 h).1).symm, by assumption⟩
theorem append_wt {w : World} {ops : Array Oper} {rest : List Oper} {o : Oper} {a : Act} {Q : Exit -> Act -> World -> Prop} (hgd : o.guard = none) (s x : Operand)
  (ho : o.op = .call { callee := .builtin .append, args := #[s, x], argTypes := #[37, 37] })
  (v : Value) (l : List Int) (hs : a.eval s = v) (hw : Wt w v l)
  (ao : Option Addr) (m c : Nat) (k : List Int) (hx : a.eval x = .slice ao m c) (hao : ao = none -> c = 0) (hb : Bs w ao m k) (hn : l.length + m <= 100000)
  (h : ∀ v' w', Wt w' v' (l ++ k) -> w.grownBy w' v.ownBlock -> (v'.ownBlock = v.ownBlock \/ v'.ownBlock = some w.heap.size) -> wpList Tryz.prog ops Q rest (a.put o.dst v') w') : wpList Tryz.prog ops Q (o :: rest) a w :=
 wpList_plain hgd fun _ hK => by
  obtain ⟨v', w', hr, h2, h3, h4⟩ := run_append_wt w o.type v l hw ao m c k hb hao hn
  unfold Oper.wp execOp
  simp only [ho, resolve, invoke, builtin, Sem.run_bind, Sem.run_pure, Result.andThen_ok, List.map_toArray, List.map_cons, List.map_nil, hs, hx, hr]
  exact hK _ _ (h v' w' h2 h3 h4)
theorem wt_made (w : World) (l : List Int) (hl : ∀ n ∈ l, 0 <= n /\ n <= 255) (h2 : l.length <= maxLen) : Wt (w.alloc (.cells (cellsB l).toArray 5)) (.slice (some ⟨w.heap.size, 0, none⟩) l.length l.length) l := by
 have := wt_new w l hl l.length #[] (Nat.le_refl _) h2 (by simp)
 rwa [Array.append_empty] at this
theorem two_bd {n : Nat} (h : n <= 512) : ∀ z ∈ two n, 0 <= z /\ z <= 255 := by
 intro z hz
 simp only [two, List.mem_cons, List.not_mem_nil, or_false] at hz
 rcases hz with rfl | rfl <;> omega
theorem four_bd {s : Int} (h : 0 <= s /\ s <= 4294967295) : ∀ z ∈ four s, 0 <= z /\ z <= 255 := by
 intro z hz
 simp only [four, List.mem_cons, List.not_mem_nil, or_false] at hz
 rcases hz with rfl | rfl | rfl | rfl <;> omega
theorem bd_app {l m : List Int} (h : ∀ z ∈ l, 0 <= z /\ z <= 255) (h' : ∀ z ∈ m, 0 <= z /\ z <= 255) : ∀ z ∈ l ++ m, 0 <= z /\ z <= 255 := fun z hz => (List.mem_append.1 hz).elim (h z) (h' z)
def hdV (x y n s : Int) : Value := .agg #[.int .u8 x, .int .u8 y, .int .i64 n, .int .u32 s]
theorem laid_any (x y s : Int) (n : Nat) (w : World) (hx : 0 <= x /\ x <= 255) (hy : 0 <= y /\ y <= 255) (hn : n <= 512) (hs : 0 <= s /\ s <= 4294967295) :
  Calls Tryz.prog 21 #[hdV x y n s] w fun e w' => ∃ v, e = .returned v /\ Wt w' v ([x, y] ++ (two n ++ four s)) /\ Below w.heap.size w w' /\ ∀ k, v.ownBlock = some k -> w.heap.size <= k := by
 unfold hdV
 go_enter Tryz.func21, Tryz.ntmps21
 go_wp2
 go_ret
 refine ⟨_, rfl, ?_, ((Below.refl _ _).alloc (Nat.le_refl _) _).alloc (by simp) _, fun k hk => by cases hk; exact Nat.le_succ _⟩
 have := wt_made (w.alloc (.cells #[.int .u8 x, .int .u8 y, .int .i64 n, .int .u32 s] 80)) ([x, y] ++ (two n ++ four s)) (bd_app (by
  intro z hz
  simp only [List.mem_cons, List.not_mem_nil, or_false] at hz
  rcases hz with rfl | rfl <;> assumption) (bd_app (two_bd hn) (four_bd hs))) (by simp [two, four, maxLen])
 rw [size_alloc'] at this
 exact this
def sm (l : List Int) : Int := goS 1 l
theorem sm_bd (l : List Int) : 0 <= sm l /\ sm l <= 4294967295 := goS_bd 1 l
theorem headOf_any (a : Option Addr) (len cap : Nat) (l : List Int) (w : World) (hlen : len <= 512) (hb : Bs w a len l) :
  Calls Tryz.prog 22 #[.slice a len cap] w fun e w' => e = .returned (hdV 102 76 len (sm (two len ++ l))) /\ Below w.heap.size w w' := by
 unfold hdV
 have e1 : ∀ o, Below w.heap.size w (w.alloc o) := fun o => (Below.refl _ _).alloc (Nat.le_refl _) _
 have e2 : ∀ o o', Below w.heap.size w ((w.alloc o).alloc o') := fun o o' => (e1 o).alloc (by simp) _
 have HB : Hid (∀ o o', Bs ((w.alloc o).alloc o') a len l) := fun o o' => hb.below (e2 o o')
 have HW : Hid (∀ o, Bs ((w.alloc o).alloc (.cells #[.int .u8 ((len : Int) / 256), .int .u8 ((len : Int) % 256)] 5)) (some ⟨w.heap.size + 1, 0, none⟩) 2 (two len)) := fun o => by
  have := wt_made (w.alloc o) (two len) (two_bd hlen) (by simp [two, maxLen])
  rw [size_alloc'] at this
  obtain ⟨a, cap, h1, h2, _⟩ := this.slice
  cases h1
  exact h2
 clear hb
 go_enter Tryz.func22, Tryz.ntmps22
 go_wp2_with (first | (go_at_call 51; refine (of_any _ _ _ _ _ (by decide) (HW.out _)).mono ?_; rintro e w1 ⟨rfl, rfl⟩) | (go_at_call 50; refine (go_any _ _ _ _ _ _ (goS_bd _ _).1 (goS_bd _ _).2 (by omega) (HB.out _ _)).mono ?_; rintro e w1 ⟨rfl, rfl⟩))
 refine bodyPost_ret (v := .agg #[.int .u8 102, .int .u8 76, .int .i64 len, .int .u32 (goS (goS 1 (two len)) l)]) (by simp [results, Tryz.results22, go_sem]) rfl ⟨by rw [goS_app]; rfl, e2 _ _⟩
theorem frame_any (a : Option Addr) (len cap : Nat) (l : List Int) (w : World) (h0 : 1 <= len) (h1 : len <= 512) (hb : Bs w a len l) :
  Calls Tryz.prog 6 #[.slice a len cap] w fun e w' => ∃ v, e = .returned (.tuple #[v, .int .i64 0]) /\ Wt w' v (frm sm l) /\ Below w.heap.size w w' /\ ∀ k, v.ownBlock = some k -> w.heap.size <= k := by
 have hao : a = none -> cap = 0 := by
  obtain ⟨b, off, rfl, _⟩ := hb.2.2 (by omega)
  intro h; cases h
 have hll := hb.1
 go_enter Tryz.func6, Tryz.ntmps6
 go_wp2_with (first
  | (go_at_call 22; refine (headOf_any a len cap l _ h1 hb).mono ?_; rintro e w1 ⟨rfl, hb1⟩)
  | (go_at_call 21; refine (laid_any 102 76 _ len _ (by decide) (by decide) h1 (sm_bd _)).mono ?_; rintro e w2 ⟨v, rfl, hw2, hb2, ho2⟩; have hb3 := hb1.trans (hb2.mono hb1.size); have hbs := hb.below hb3)
  | (refine append_wt rfl (.tmp 14) (.tmp 15) rfl v _ rfl hw2 a len cap l rfl hao hbs (by simp [two, four]; omega) ?_; intro v' w3 hw3 hg3 ho3))
 go_ret2
 refine ⟨v', rfl, ?_, hb3.grown hg3 hb3.size (fun k hk => Nat.le_trans hb1.size (ho2 k hk)), fun k hk => ?_⟩
 ·have e : frm sm l = [102, 76] ++ (two len ++ four (sm (two len ++ l))) ++ l := by simp [frm, hll]
  rw [e]
  exact hw3
 ·rcases ho3 with h | h
  ·exact Nat.le_trans hb1.size (ho2 k (by rw [<- h]; exact hk))
  ·rw [h] at hk
   cases hk
   exact hb3.size
end Go.Proofs.YtmcgcbgblgmmkaaGreatDoor.F
