/-
  IMath IMem ILay IRead IProgs.
-/
import Derived.Test.YtcckipimfgmmdaaGreatDoorGs8
import Derived.Test.YtcckipimfgmmdaaGreatDoorGs16
import Derived.RegionTactic
import Derived.ChangeAlike
import Derived.BigRegion
import Derived.Deep.DeepCutAuto
set_option maxHeartbeats 2000000
namespace Go.Proofs.YtcckipimfgmmdaaGreatDoor.I
open V (In)
def Byt (l : List Int) : Prop := ∀ z ∈ l, 0 <= z /\ z <= 255
end Go.Proofs.YtcckipimfgmmdaaGreatDoor.I
namespace Go.Proofs.YtcckipimfgmmdaaGreatDoor.V
def In.enc (x : In) : List Int := [x.c % 256, x.c / 256, x.t, x.f, x.k % 256, x.k / 256 % 256, x.k / 65536 % 256, x.k / 16777216]
end Go.Proofs.YtcckipimfgmmdaaGreatDoor.V
namespace Go.Proofs.YtcckipimfgmmdaaGreatDoor.I
open V (In)
open V (In.enc)
def dec (l : List Int) : In := ⟨l.getD 0 0 + 256 * l.getD 1 0, l.getD 2 0, l.getD 3 0, l.getD 4 0 + 256 * l.getD 5 0 + 65536 * l.getD 6 0 + 16777216 * l.getD 7 0⟩
end Go.Proofs.YtcckipimfgmmdaaGreatDoor.I
namespace Go.Proofs.YtcckipimfgmmdaaGreatDoor.V
theorem In.enc_len (x : In) : x.enc.length = 8 := rfl
end Go.Proofs.YtcckipimfgmmdaaGreatDoor.V
namespace Go.Proofs.YtcckipimfgmmdaaGreatDoor.I
open V (In)
open V (In.enc)
open V (In.enc_len)
end Go.Proofs.YtcckipimfgmmdaaGreatDoor.I
namespace Go.Proofs.YtcckipimfgmmdaaGreatDoor.V
theorem In.enc_byt (x : In) (h : x.ok) : I.Byt x.enc := by
 obtain ⟨⟨a1, a2⟩, ⟨b1, b2⟩, ⟨c1, c2⟩, ⟨d1, d2⟩⟩ := h
 intro z hz
 simp only [In.enc, List.mem_cons, List.not_mem_nil, or_false] at hz
 rcases hz with rfl | rfl | rfl | rfl | rfl | rfl | rfl | rfl <;> omega
end Go.Proofs.YtcckipimfgmmdaaGreatDoor.V
namespace Go.Proofs.YtcckipimfgmmdaaGreatDoor.I
open V (In)
open V (In.enc)
open V (In.enc_len)
open V (In.enc_byt)
end Go.Proofs.YtcckipimfgmmdaaGreatDoor.I
namespace Go.Proofs.YtcckipimfgmmdaaGreatDoor.V
theorem In.ext' {x y : In} (h1 : x.c = y.c) (h2 : x.t = y.t) (h3 : x.f = y.f) (h4 : x.k = y.k) : x = y := by
 cases x; cases y; simp_all
end Go.Proofs.YtcckipimfgmmdaaGreatDoor.V
namespace Go.Proofs.YtcckipimfgmmdaaGreatDoor.I
open V (In)
open V (In.enc)
open V (In.enc_len)
open V (In.enc_byt)
open V (In.ext')
theorem dec_enc (x : In) (r : List Int) (h : x.ok) : dec (x.enc ++ r) = x := by
 obtain ⟨⟨a1, a2⟩, ⟨b1, b2⟩, ⟨c1, c2⟩, ⟨d1, d2⟩⟩ := h
 refine In.ext' ?_ ?_ ?_ ?_
 ·show x.c % 256 + 256 * (x.c / 256) = x.c
  omega
 ·rfl
 ·rfl
 ·show x.k % 256 + 256 * (x.k / 256 % 256) + 65536 * (x.k / 65536 % 256) + 16777216 * (x.k / 16777216) = x.k
  omega
theorem byt_get {l : List Int} (h : Byt l) (k : Nat) : 0 <= l.getD k 0 /\ l.getD k 0 <= 255 := by
 rw [List.getD_eq_getElem?_getD]
 by_cases hk : k < l.length
 ·have := h _ (List.getElem_mem hk)
  rw [List.getElem?_eq_getElem hk]; exact this
 ·rw [List.getElem?_eq_none (by omega)]; simp
def encAll (l : List In) : List Int := l.flatMap In.enc
def decN (l : List Int) (n : Nat) : List In := (List.range n).map (fun i => dec (l.drop (i * 8)))
theorem encAll_cons (x : In) (l : List In) : encAll (x :: l) = x.enc ++ encAll l := rfl
theorem encAll_snoc (l : List In) (x : In) : encAll (l ++ [x]) = encAll l ++ x.enc := by simp [encAll]
theorem encAll_len (l : List In) : (encAll l).length = l.length * 8 := by
 induction l with
 | nil => rfl
 | cons x l ih => rw [encAll_cons, List.length_append, ih, In.enc_len, List.length_cons]; omega
theorem encAll_byt (l : List In) (h : ∀ x ∈ l, x.ok) : Byt (encAll l) := by
 intro z hz
 simp only [encAll, List.mem_flatMap] at hz
 obtain ⟨x, hx, hz⟩ := hz
 exact x.enc_byt (h x hx) z hz
theorem decN_len (l : List Int) (n : Nat) : (decN l n).length = n := by simp [decN]
theorem decN_succ (l : List Int) (n : Nat) : decN l (n + 1) = decN l n ++ [dec (l.drop (n * 8))] := by simp [decN, List.range_succ]
theorem decN_cons (l : List Int) (n : Nat) : decN l (n + 1) = dec l :: decN (l.drop 8) n := by
 induction n with
 | zero => simp [decN, List.range_succ]
 | succ n ih =>
  rw [decN_succ, ih, decN_succ, List.drop_drop]
  simp
  congr 2
  omega
theorem decN_encAll (l : List In) (h : ∀ x ∈ l, x.ok) : decN (encAll l) l.length = l := by
 induction l with
 | nil => rfl
 | cons x l ih =>
  rw [List.length_cons, decN_cons, encAll_cons, dec_enc x _ (h x (by simp)), show (x.enc ++ encAll l).drop 8 = encAll l from List.drop_left' (i := 8) (l₁ := x.enc) rfl, ih (fun y hy => h y (by simp [hy]))]
open P (Tryz.info5)
open V (grow_refl)
open Go.RowKit
def Bs (w : World) (a : Option Addr) (len : Nat) (l : List Int) : Prop :=
 l.length = len /\ Byt l /\
 (0 < len -> ∃ b off, a = some ⟨b, off, none⟩ /\ ∀ i, i < len -> w.cell? ⟨b, off + i, none⟩ = some (.int .u8 (l.getD i 0)))
def cellsB (l : List Int) : List Value := l.map (Value.int .u8)
theorem cellsB_app (l m : List Int) : cellsB (l ++ m) = cellsB l ++ cellsB m := by simp [cellsB]
theorem owns_bs {w : World} {base : Nat} {v : Value} {n : Nat} {l : List Int} (h : w.ownsRow base 5 1 v n (cellsB l)) (hl : Byt l) : ∃ a cap, v = .slice a n cap /\ Bs w a n l /\ n <= cap /\ (a = none -> cap = 0) := by
 have hlen : l.length = n := by have := h.1; simpa [cellsB] using this
 rcases h.2 with ⟨rfl, rfl⟩ | ⟨g, cap, cur, rfl, hb, hg, hnc, hcm, hcs, htake⟩
 ·exact ⟨none, 0, rfl, ⟨hlen, hl, fun h => absurd h (by omega)⟩, by omega, fun _ => rfl⟩
 ·refine ⟨_, cap, rfl, ⟨hlen, hl, fun _ => ⟨g, 0, rfl, fun i hi => ?_⟩⟩, hnc, by simp⟩
  have := h.cells (g := g) rfl i (.int .u8 (l.getD i 0)) (by simp [cellsB, List.getElem?_eq_getElem (show i < l.length from by omega)])
  rw [show (⟨g, 0 + i, none⟩ : Addr) = (⟨g, 0, none⟩ : Addr).add i from by unfold Addr.add; split <;> simp_all]
  exact this
theorem Bs.news {w : World} {x : Addr} {len : Nat} {l : List Int} (h : Bs w (some x) len l) : ∀ j u, (cellsB l)[j]? = some u -> w.cell? (x.add j) = some u := by
 intro j u hu
 have hj : j < l.length := by
  have := (List.getElem?_eq_some_iff.1 hu).1
  simpa [cellsB] using this
 obtain ⟨b, off, e, hc⟩ := h.2.2 (by have := h.1; omega)
 cases e
 have := hc j (by have := h.1; omega)
 rw [show (⟨b, off + j, none⟩ : Addr) = (⟨b, off, none⟩ : Addr).add j from by unfold Addr.add; split <;> simp_all] at this
 rw [this]
 simp [cellsB, List.getElem?_eq_getElem hj] at hu ⊢
 exact hu
theorem Bs.nil {w : World} {len : Nat} {l : List Int} (h : Bs w none len l) : len = 0 /\ l = [] := by
 have h0 : len = 0 := by
  rcases Nat.eq_zero_or_pos len with e | e
  ·exact e
  ·obtain ⟨_, _, e, _⟩ := h.2.2 e
   cases e
 exact ⟨h0, List.eq_nil_of_length_eq_zero (by rw [h.1, h0])⟩
theorem Bs.below {w w' : World} {a : Option Addr} {len : Nat} {l : List Int} (h : Bs w a len l) (hb : Below w.heap.size w w') : Bs w' a len l := by
 refine ⟨h.1, h.2.1, fun h0 => ?_⟩
 obtain ⟨b, off, ha, hc⟩ := h.2.2 h0
 refine ⟨b, off, ha, fun i hi => ?_⟩
 rw [hb.cell (p := ⟨b, off + i, none⟩) (World.block_lt_of_cell? w _ (hc i hi))]
 exact hc i hi
theorem append_bytes {w : World} {ops : Array Oper} {rest : List Oper} {o : Oper} {a : Act} {Q : Exit -> Act -> World -> Prop} (hgd : o.guard = none) (s x : Operand)
  (ho : o.op = .call { callee := .builtin .append, args := #[s, x], argTypes := #[62, 62] })
  (base : Nat) (v : Value) (n : Nat) (l : List Int) (hs : a.eval s = v) (hown : w.ownsRow base 5 1 v n (cellsB l))
  (ao : Option Addr) (m c : Nat) (k : List Int) (hx : a.eval x = .slice ao m c) (hao : ao = none -> c = 0) (hb : Bs w ao m k)
  (hn : n + m <= 1000000000) (hbase : base <= w.heap.size)
  (h : ∀ v' w', w'.ownsRow base 5 1 v' (n + m) (cellsB (l ++ k)) -> w.grownBy w' v.ownBlock -> wpList Tryz.prog ops Q rest (a.put o.dst v') w') : wpList Tryz.prog ops Q (o :: rest) a w := by
 obtain ⟨i0, hi, hz0, hz1, hz2⟩ := info_parts Tryz.info5
 cases ao with
 | none =>
  obtain ⟨rfl, rfl⟩ := hb.nil
  obtain rfl := hao rfl
  refine wpList_append_own_none hgd s x 62 ho base 5 i0 1 Tryz.underlying62 hi v n (cellsB l) hs hown hx ?_
  exact h v w (by simpa using hown) (grow_refl _ _)
 | some ad =>
  refine wpList_append_own _ hgd s x 62 ho base 5 i0 (.int .u8 0) 1 1 Tryz.underlying62 hi hz0 hz1 hz2 rfl (by decide) v n (cellsB l) hs hown ad m c (cellsB k) hx (by simp [cellsB, hb.1]) hb.news (by intro u hu; simp [cellsB] at hu; obtain ⟨z, _, rfl⟩ := hu; rfl) (by unfold maxLen; omega) (by omega) hbase ?_
  intro v' w' h1 h2 _
  exact h v' w' (by rw [cellsB_app]; exact h1) h2
theorem bs_four (w : World) (p q r s : Int) (h : Byt [p, q, r, s]) : Bs (w.alloc (.cells #[.int .u8 p, .int .u8 q, .int .u8 r, .int .u8 s] 5)) (some ⟨w.heap.size, 0, none⟩) 4 [p, q, r, s] := by
 refine ⟨rfl, h, fun _ => ⟨_, _, rfl, fun i hi => ?_⟩⟩
 match i, hi with
 | 0, _ => simp
 | 1, _ => simp
 | 2, _ => simp
 | 3, _ => simp
theorem Bs.sub {w : World} {b off len : Nat} {l : List Int} (h : Bs w (some ⟨b, off, none⟩) len l) (i m : Nat) (hm : i + m <= len) : Bs w (some ⟨b, off + i, none⟩) m ((l.drop i).take m) := by
 refine ⟨by rw [List.length_take, List.length_drop, h.1]; omega, fun z hz => h.2.1 z (List.mem_of_mem_drop (List.mem_of_mem_take hz)), fun h0 => ⟨b, off + i, rfl, fun j hj => ?_⟩⟩
 obtain ⟨_, _, e, hc⟩ := h.2.2 (by omega)
 cases e
 rw [Nat.add_assoc, hc (i + j) (by omega)]
 simp [hj]
theorem new_cells (w : World) (x : In) (o : Obj) (ho : o = .cells #[.int .u16 x.c, .int .u8 x.t, .int .u8 x.f, .int .u32 x.k] 60) : ∀ j u, x.cells[j]? = some u -> (w.alloc o).cell? ((⟨w.heap.size, 0, none⟩ : Addr).add j) = some u := by
 subst ho
 intro j u hu
 match j, hu with
 | 0, hu => cases hu; simp [Addr.add]
 | 1, hu => cases hu; simp [Addr.add]
 | 2, hu => cases hu; simp [Addr.add]
 | 3, hu => cases hu; simp [Addr.add]
open P (owns_block size_alloc')
open V (In.val own_lt)
theorem bs_four' (w : World) (o : Obj) (p q r s : Int) (h : Byt [p, q, r, s]) : Bs ((w.alloc o).alloc (.cells #[.int .u8 p, .int .u8 q, .int .u8 r, .int .u8 s] 5)) (some ⟨w.heap.size + 1, 0, none⟩) 4 [p, q, r, s] := by
 have := bs_four (w.alloc o) p q r s h
 rw [size_alloc'] at this
 exact this
theorem boxed_cell {w w1 : World} {o o2 : Obj} {v : Value} {i : Nat} {u : Value} (hg : ((w.alloc o).alloc o2).grownBy w1 v.ownBlock) (hv : ∀ k, v.ownBlock = some k -> k < w.heap.size) (hu : (w.alloc o).cell? ⟨w.heap.size, i, none⟩ = some u) : w1.cell? ⟨w.heap.size, i, none⟩ = some u := by
 rw [World.cell?_of_block (w := (w.alloc o).alloc o2) (hg.block w.heap.size (by rw [size_alloc', size_alloc']; omega) (fun e => by have := hv _ e.symm; omega))]
 have hb : Below (w.alloc o).heap.size (w.alloc o) ((w.alloc o).alloc o2) := (Below.refl _ _).alloc (Nat.le_refl _) _
 rw [hb.cell (p := ⟨w.heap.size, i, none⟩) (by rw [size_alloc']; exact Nat.lt_succ_self _)]
 exact hu
theorem lay_any (base : Nat) (v : Value) (n : Nat) (l : List Int) (x : In) (w : World) (hx : x.ok) (ho : w.ownsRow base 5 1 v n (cellsB l)) (hn : n <= 900000000) (hbase : base <= w.heap.size) :
  Calls Tryz.prog 37 #[v, x.val] w fun e w' => Below base w w' /\ ∃ v', e = .returned v' /\ w'.ownsRow base 5 1 v' (n + 8) (cellsB (l ++ x.enc)) := by
 obtain ⟨c, t, f, k⟩ := x
 obtain ⟨⟨a1, a2⟩, ⟨b1, b2⟩, ⟨c1, c2⟩, ⟨d1, d2⟩⟩ := hx
 simp only at a1 a2 b1 b2 c1 c2 d1 d2
 have HB1 : Hid (Byt [c % 256, c / 256, t, f]) := by
  intro z hz
  simp only [List.mem_cons, List.not_mem_nil, or_false] at hz
  rcases hz with rfl | rfl | rfl | rfl <;> omega
 have HB2 : Hid (Byt [k % 256, k / 256 % 256, k / 65536 % 256, k / 16777216]) := by
  intro z hz
  simp only [List.mem_cons, List.not_mem_nil, or_false] at hz
  rcases hz with rfl | rfl | rfl | rfl <;> omega
 have HS : Hid (∀ o : Obj, (w.alloc o).heap.size = w.heap.size + 1) := fun o => size_alloc' w o
 unfold In.val
 clear b1 b2 c1 c2
 go_enter Tryz.func37, Tryz.ntmps37
 go_wp2_with (at_builtin; first | (refine append_bytes rfl (.tmp 5) (.tmp 17) rfl base _ n l rfl ((ho.alloc _).alloc _) (some ⟨w.heap.size + 1, 0, none⟩) 4 4 [c % 256, c / 256, t, f] rfl (by simp) (bs_four' w _ _ _ _ _ HB1.out) (by omega) (by rw [size_alloc', size_alloc']; omega) ?_; intro v1 w1 ho1 hg1; have hk : w1.cell? ⟨w.heap.size, 3, none⟩ = some (.int .u32 k) := boxed_cell hg1 (own_lt ho) (by simp)) | (refine append_bytes rfl (.tmp 19) (.tmp 35) rfl base _ (n + 4) _ rfl (ho1.alloc _) (some ⟨w1.heap.size, 0, none⟩) 4 4 [k % 256, k / 256 % 256, k / 65536 % 256, k / 16777216] rfl (by simp) (bs_four w1 _ _ _ _ HB2.out) (by omega) (by have := hg1.size; rw [size_alloc', size_alloc'] at this; rw [size_alloc']; omega) ?_; intro v2 w2 ho2 hg2))
 go_ret
 have e2 : Below base w ((w.alloc (Obj.cells #[.int .u16 c, .int .u8 t, .int .u8 f, .int .u32 k] 60)).alloc (Obj.cells #[.int .u8 (c % 256), .int .u8 (c / 256), .int .u8 t, .int .u8 f] 5)) := ((Below.refl _ _).alloc hbase _).alloc (by rw [size_alloc']; omega) _
 have e3 : Below base w w1 := e2.grown hg1 (by rw [size_alloc', size_alloc']; omega) (owns_block ho)
 have e4 := e3.alloc (Nat.le_trans hbase e3.size) (Obj.cells #[.int .u8 (k % 256), .int .u8 (k / 256 % 256), .int .u8 (k / 65536 % 256), .int .u8 (k / 16777216)] 5)
 have e5 := e4.grown hg2 (Nat.le_trans hbase e4.size) (owns_block ho1)
 refine ⟨e5, _, rfl, ?_⟩
 rw [List.append_assoc] at ho2
 exact ho2
theorem or16 (a b : Int) (a0 : 0 <= a) (a1 : a <= 255) (b0 : 0 <= b) (b1 : b <= 255) : bits BinOp.or IntKind.u16 a (b * 256) = a + 256 * b := by
 obtain ⟨n, rfl⟩ := Int.eq_ofNat_of_zero_le a0
 obtain ⟨m, rfl⟩ := Int.eq_ofNat_of_zero_le b0
 have e : ((m : Int) * 256) = ((m * 256 : Nat) : Int) := by omega
 rw [e, u16_or_nat n (m * 256) (by omega) (by omega), Nat.or_comm, show (256 : Nat) = 2 ^ 8 from rfl, <- Nat.shiftLeft_eq, <- Nat.shiftLeft_add_eq_or_of_lt (by omega)]
 omega
theorem or32 (a b : Int) (s : Nat) (p : Int) (hp : p = ((2 ^ s : Nat) : Int)) (a0 : 0 <= a) (a1 : a < p) (b0 : 0 <= b) (b1 : b * p < 4294967296) (hs : p <= 4294967296) : bits BinOp.or IntKind.u32 a (b * p) = a + p * b := by
 obtain ⟨n, rfl⟩ := Int.eq_ofNat_of_zero_le a0
 obtain ⟨m, rfl⟩ := Int.eq_ofNat_of_zero_le b0
 subst hp
 have e : ((m : Int) * ((2 ^ s : Nat) : Int)) = ((m * 2 ^ s : Nat) : Int) := by rw [Int.natCast_mul]
 rw [e] at b1
 rw [e, u32_or_nat n (m * 2 ^ s) (by omega) (by omega), Nat.or_comm, <- Nat.shiftLeft_eq, <- Nat.shiftLeft_add_eq_or_of_lt (by omega), Nat.shiftLeft_eq, Int.natCast_add, Int.natCast_mul, Int.mul_comm]
 omega
theorem boxed_zero (w : World) : Below w.heap.size w (w.alloc (Obj.cells #[Value.int IntKind.u16 0, Value.int IntKind.u8 0, Value.int IntKind.u8 0, Value.int IntKind.u32 0] 60)) /\
  (w.alloc (Obj.cells #[Value.int IntKind.u16 0, Value.int IntKind.u8 0, Value.int IntKind.u8 0, Value.int IntKind.u32 0] 60)).cell? ⟨w.heap.size, 0, none⟩ = some (.int .u16 0) /\
  (w.alloc (Obj.cells #[Value.int IntKind.u16 0, Value.int IntKind.u8 0, Value.int IntKind.u8 0, Value.int IntKind.u32 0] 60)).cell? ⟨w.heap.size, 1, none⟩ = some (.int .u8 0) /\
  (w.alloc (Obj.cells #[Value.int IntKind.u16 0, Value.int IntKind.u8 0, Value.int IntKind.u8 0, Value.int IntKind.u32 0] 60)).cell? ⟨w.heap.size, 2, none⟩ = some (.int .u8 0) /\
  (w.alloc (Obj.cells #[Value.int IntKind.u16 0, Value.int IntKind.u8 0, Value.int IntKind.u8 0, Value.int IntKind.u32 0] 60)).cell? ⟨w.heap.size, 3, none⟩ = some (.int .u32 0) /\
  (w.alloc (Obj.cells #[Value.int IntKind.u16 0, Value.int IntKind.u8 0, Value.int IntKind.u8 0, Value.int IntKind.u32 0] 60)).frozen? ⟨w.heap.size, 0, none⟩ = false /\
  (w.alloc (Obj.cells #[Value.int IntKind.u16 0, Value.int IntKind.u8 0, Value.int IntKind.u8 0, Value.int IntKind.u32 0] 60)).frozen? ⟨w.heap.size, 1, none⟩ = false /\
  (w.alloc (Obj.cells #[Value.int IntKind.u16 0, Value.int IntKind.u8 0, Value.int IntKind.u8 0, Value.int IntKind.u32 0] 60)).frozen? ⟨w.heap.size, 2, none⟩ = false /\
  (w.alloc (Obj.cells #[Value.int IntKind.u16 0, Value.int IntKind.u8 0, Value.int IntKind.u8 0, Value.int IntKind.u32 0] 60)).frozen? ⟨w.heap.size, 3, none⟩ = false :=
 ⟨(Below.refl _ _).alloc (Nat.le_refl _) _, by simp, by simp, by simp, by simp, by simp, by simp, by simp, by simp⟩
theorem read_any (a : Option Addr) (cap : Nat) (l : List Int) (w : World) (hb : Bs w a 8 l) :
  Calls Tryz.prog 36 #[.slice a 8 cap] w fun e w' => e = .returned (dec l).val /\ Below w.heap.size w w' := by
 obtain ⟨b, off, rfl, hc⟩ := hb.2.2 (by decide)
 have q0 := hc 0 (by decide)
 rw [Nat.add_zero] at q0
 have q1 := hc 1 (by decide)
 have q2 := hc 2 (by decide)
 have q3 := hc 3 (by decide)
 have q4 := hc 4 (by decide)
 have q5 := hc 5 (by decide)
 have q6 := hc 6 (by decide)
 have q7 := hc 7 (by decide)
 have g0 := byt_get hb.2.1 0
 have g1 := byt_get hb.2.1 1
 have g4 := byt_get hb.2.1 4
 have g5 := byt_get hb.2.1 5
 have g6 := byt_get hb.2.1 6
 have g7 := byt_get hb.2.1 7
 clear hc hb
 unfold In.val dec
 dsimp only
 generalize l.getD 0 0 = x0 at *
 generalize l.getD 1 0 = x1 at *
 generalize l.getD 2 0 = x2 at *
 generalize l.getD 3 0 = x3 at *
 generalize l.getD 4 0 = x4 at *
 generalize l.getD 5 0 = x5 at *
 generalize l.getD 6 0 = x6 at *
 generalize l.getD 7 0 = x7 at *
 obtain ⟨g01, g02⟩ := g0
 obtain ⟨g11, g12⟩ := g1
 obtain ⟨g41, g42⟩ := g4
 obtain ⟨g51, g52⟩ := g5
 obtain ⟨g61, g62⟩ := g6
 obtain ⟨g71, g72⟩ := g7
 have V1 : Hid (bits BinOp.or IntKind.u16 (IntKind.u16.wrap x0) (IntKind.u16.wrap (IntKind.u16.wrap x1 * 256)) = x0 + 256 * x1) := by
  unfold Hid
  rw [show IntKind.u16.wrap x0 = x0 by rw [IntKind.wrap_u16]; omega, show IntKind.u16.wrap x1 = x1 by rw [IntKind.wrap_u16]; omega, show IntKind.u16.wrap (x1 * 256) = x1 * 256 by rw [IntKind.wrap_u16]; omega]
  exact or16 x0 x1 g01 g02 g11 g12
 have V2 : Hid (bits BinOp.or IntKind.u32 (bits BinOp.or IntKind.u32 (bits BinOp.or IntKind.u32 (IntKind.u32.wrap x4) (IntKind.u32.wrap (IntKind.u32.wrap x5 * 256))) (IntKind.u32.wrap (IntKind.u32.wrap x6 * 65536))) (IntKind.u32.wrap (IntKind.u32.wrap x7 * 16777216)) = x4 + 256 * x5 + 65536 * x6 + 16777216 * x7) := by
  unfold Hid
  rw [show IntKind.u32.wrap x4 = x4 by rw [IntKind.wrap_u32]; omega, show IntKind.u32.wrap x5 = x5 by rw [IntKind.wrap_u32]; omega, show IntKind.u32.wrap x6 = x6 by rw [IntKind.wrap_u32]; omega, show IntKind.u32.wrap x7 = x7 by rw [IntKind.wrap_u32]; omega,
   show IntKind.u32.wrap (x5 * 256) = x5 * 256 by rw [IntKind.wrap_u32]; omega, show IntKind.u32.wrap (x6 * 65536) = x6 * 65536 by rw [IntKind.wrap_u32]; omega, show IntKind.u32.wrap (x7 * 16777216) = x7 * 16777216 by rw [IntKind.wrap_u32]; omega]
  rw [or32 x4 x5 8 256 rfl g41 (by omega) g51 (by omega) (by decide), or32 (x4 + 256 * x5) x6 16 65536 rfl (by omega) (by omega) g61 (by omega) (by decide),
   or32 (x4 + 256 * x5 + 65536 * x6) x7 24 16777216 rfl (by omega) (by omega) g71 (by omega) (by decide)]
 clear g01 g02 g11 g12 g41 g42 g51 g52 g61 g62 g71 g72
 have hne : w.heap.size ≠ b := World.new_ne w _ q0
 go_enter Tryz.func36, Tryz.ntmps36
 go_wp2_with fail
 obtain ⟨hbl, s0, s1, s2, s3, f0, f1, f2, f3⟩ := boxed_zero w
 generalize w.alloc (Obj.cells #[Value.int IntKind.u16 0, Value.int IntKind.u8 0, Value.int IntKind.u8 0, Value.int IntKind.u32 0] 60) = W at *
 replace q0 := (hbl.cell (World.block_lt_of_cell? w _ q0)).trans q0
 replace q1 := (hbl.cell (World.block_lt_of_cell? w _ q1)).trans q1
 replace q2 := (hbl.cell (World.block_lt_of_cell? w _ q2)).trans q2
 replace q3 := (hbl.cell (World.block_lt_of_cell? w _ q3)).trans q3
 replace q4 := (hbl.cell (World.block_lt_of_cell? w _ q4)).trans q4
 replace q5 := (hbl.cell (World.block_lt_of_cell? w _ q5)).trans q5
 replace q6 := (hbl.cell (World.block_lt_of_cell? w _ q6)).trans q6
 replace q7 := (hbl.cell (World.block_lt_of_cell? w _ q7)).trans q7
 have HB : Hid (Below w.heap.size w W) := hbl
 clear hbl
 go_region_held3 (fun w' => w'.cell? ⟨b, off, none⟩ = some (.int .u8 x0) /\ w'.cell? ⟨b, off + 1, none⟩ = some (.int .u8 x1) /\ w'.cell? ⟨b, off + 2, none⟩ = some (.int .u8 x2) /\ w'.cell? ⟨b, off + 3, none⟩ = some (.int .u8 x3) /\ w'.cell? ⟨b, off + 4, none⟩ = some (.int .u8 x4) /\ w'.cell? ⟨b, off + 5, none⟩ = some (.int .u8 x5) /\ w'.cell? ⟨b, off + 6, none⟩ = some (.int .u8 x6) /\ w'.cell? ⟨b, off + 7, none⟩ = some (.int .u8 x7)) (go_keep) (fail)
 all_goals
  go_wp2_with fail
  rw [V1.out, V2.out]
  refine bodyPost_ret (v := .agg #[.int .u16 (x0 + 256 * x1), .int .u8 x2, .int .u8 x3, .int .u32 (x4 + 256 * x5 + 65536 * x6 + 16777216 * x7)]) (by simp [results, Tryz.results36, go_sem, s0, s1, s2, s3]) rfl ⟨rfl, ?_⟩
  exact ((((HB.out.setCell (Nat.le_refl _) _).setCell (Nat.le_refl _) _).setCell (Nat.le_refl _) _).setCell (Nat.le_refl _) _).drew
open P (owns_below)
open V (Ins Tryz.info60 append_in cellsI)
theorem takeIn_snoc (l : List In) (k : Nat) (hk : k < l.length) : l.take (k + 1) = l.take k ++ [l[k]] := by
 rw [List.take_add_one, List.getElem?_eq_getElem hk]
 rfl
theorem encAll_take (l : List In) (k : Nat) (hk : k < l.length) : encAll (l.take (k + 1)) = encAll (l.take k) ++ l[k].enc := by
 rw [takeIn_snoc l k hk, encAll_snoc]
theorem bytes_any (a : Option Addr) (len cap : Nat) (ins : List In) (w : World) (hlen : len <= 100000) (h : Ins w a len ins) :
  Calls Tryz.prog 18 #[.slice a len cap] w fun e w' => Below w.heap.size w w' /\ ∃ v, e = .returned v /\ w'.ownsRow w.heap.size 5 1 v (len * 8) (cellsB (encAll ins)) := by
 have hll := h.1
 obtain ⟨i0, hi, hz0, hz1, hz2⟩ := info_parts Tryz.info5
 obtain ⟨wm, hmk, hown, hgr⟩ := run_make_own (P := Tryz.prog) w w.heap.size 62 5 i0 (.int .u8 0) 1 Tryz.underlying62 hi hz0 hz1 .i64 .i64 (len * 8) (by rw [hz2]; omega) (by unfold maxLen; omega) (Nat.le_refl _)
 have hm8 : ((len : Int) * 8) = ((len * 8 : Nat) : Int) := by omega
 have hbm : Below w.heap.size w wm := (Below.refl _ _).grown hgr (Nat.le_refl _) (fun k e => by cases e)
 rw [<- hm8] at hmk
 clear hgr hi hz0 hz1 hz2 hm8
 go_enter Tryz.func18, Tryz.ntmps18
 go_wp2
 go_loopw [3, 12] (fun v i wr => ∃ k : Nat, k <= len /\ i = .int .i64 k /\ wr.ownsRow w.heap.size 5 1 v (k * 8) (cellsB (encAll (ins.take k))) /\ Below w.heap.size w wr) (fun _ i _ => len - (intOf i).toNat)
 case atStart => exact ⟨0, Nat.zero_le _, rfl, hown, hbm⟩
 case round =>
  obtain ⟨k, hk, rfl, ho, hbr⟩ := hrel
  clear hown hbm hmk
  by_cases hlt : k < len
  ·have hir := h.below hbr
   obtain ⟨b, off, rfl, hc⟩ := hir.2.2 (by omega)
   obtain ⟨q1, q2, q3, q4⟩ := hc k ins[k] (List.getElem?_eq_getElem (by omega))
   have HO : Hid (ins[k].ok) := hir.2.1 ins[k] (List.getElem_mem (by omega))
   have HS : Hid (encAll (ins.take (k + 1)) = encAll (ins.take k) ++ ins[k].enc) := encAll_take ins k (by omega)
   have HL : Hid (∀ W : World, W.ownsRow w.heap.size 5 1 u3 (k * 8) (cellsB (encAll (ins.take k))) -> w.heap.size <= W.heap.size -> Calls Tryz.prog 37 #[u3, ins[k].val] W fun e w' => Below w.heap.size W w' /\ ∃ v', e = .returned v' /\ w'.ownsRow w.heap.size 5 1 v' (k * 8 + 8) (cellsB (encAll (ins.take k) ++ ins[k].enc))) := fun W h1 h2 => lay_any w.heap.size u3 (k * 8) (encAll (ins.take k)) ins[k] W HO.out h1 (by omega) h2
   clear hc hir h HO
   generalize ins[k] = x at *
   generalize x.enc = ex at *
   generalize encAll (ins.take k) = el at *
   obtain ⟨xc, xt, xf, xk⟩ := x
   unfold In.val at *
   simp only at q1 q2 q3 q4
   have hi1 : (k : Int) < (len : Int) := by omega
   have hbs := hbr.size
   go_wp2_with (go_at_call 37; refine (HL.out _ (ho.alloc _) (by rw [size_alloc']; omega)).mono ?_; rintro e w2 ⟨hb2, v2, rfl, ho2⟩)
   go_roundw
   case rel => exact ⟨k + 1, by omega, by go_num, by rw [HS.out, Nat.add_mul, Nat.one_mul]; exact ho2, (hbr.alloc hbs _).trans hb2⟩
   case measure => simp [intOf]; omega
  ·obtain rfl : k = len := by omega
   have hta : ins.take k = ins := by rw [<- hll, List.take_length]
   rw [hta] at ho
   go_wp2
   go_ret
   exact ⟨hbr, _, rfl, ho⟩
def errAll (n : Nat) : Int := if n % 8 = 0 then 0 else 3
def decAll (l : List Int) : List In := if l.length % 8 = 0 then decN l (l.length / 8) else []
theorem dec_take (l : List Int) : dec (l.take 8) = dec l := by
 have e : ∀ i, i < 8 -> (l.take 8).getD i 0 = l.getD i 0 := by
  intro i hi
  simp [hi]
 unfold dec
 rw [e 0 (by decide), e 1 (by decide), e 2 (by decide), e 3 (by decide), e 4 (by decide), e 5 (by decide), e 6 (by decide), e 7 (by decide)]
theorem all_any (a : Option Addr) (len cap : Nat) (l : List Int) (w : World) (hlen : len <= 100000) (hcap : len <= cap) (hb : Bs w a len l) :
  Calls Tryz.prog 17 #[.slice a len cap] w fun e w' => Below w.heap.size w w' /\ ∃ v, e = .returned (.tuple #[v, .int .i64 (errAll len)]) /\ w'.ownsRow w.heap.size 60 4 v (decAll l).length (cellsI (decAll l)) := by
 have hll := hb.1
 by_cases h8 : len % 8 = 0
 ·obtain ⟨n, rfl⟩ : ∃ n, len = n * 8 := ⟨len / 8, by omega⟩
  have hd : decAll l = decN l n := by unfold decAll; rw [if_pos (by omega), hll, Nat.mul_div_cancel _ (by decide)]
  have he : errAll (n * 8) = 0 := by unfold errAll; rw [if_pos h8]
  rw [hd, he, decN_len]
  obtain ⟨i0, hi, hz0, hz1, hz2⟩ := info_parts Tryz.info60
  obtain ⟨wm, hmk, hown, hgr⟩ := run_make_own (P := Tryz.prog) w w.heap.size 30 60 i0 _ 4 Tryz.underlying30 hi hz0 hz1 .i64 .i64 n (by rw [hz2]; omega) (by unfold maxLen; omega) (Nat.le_refl _)
  have hbm : Below w.heap.size w wm := (Below.refl _ _).grown hgr (Nat.le_refl _) (fun k e => by cases e)
  have hr8 : Int.tmod ((n * 8 : Nat) : Int) 8 = 0 := by rw [Int.tmod_eq_emod_of_nonneg (by omega)]; omega
  have hd8 : Int.tdiv ((n * 8 : Nat) : Int) 8 = n := by rw [Int.tdiv_eq_ediv_of_nonneg (by omega)]; omega
  clear hgr hi hz0 hz1 hz2 hd he
  go_enter Tryz.func17, Tryz.ntmps17
  go_wp2
  go_loopw [4, 5] (fun v i wr => ∃ k : Nat, k <= n /\ i = .int .i64 ((k * 8 : Nat) : Int) /\ wr.ownsRow w.heap.size 60 4 v k (cellsI (decN l k)) /\ Below w.heap.size w wr) (fun _ i _ => n * 8 - (intOf i).toNat)
  case atStart => exact ⟨0, Nat.zero_le _, rfl, hown, hbm⟩
  case round =>
   obtain ⟨k, hk, rfl, ho, hbr⟩ := hrel
   clear hown hbm hmk hr8 hd8
   by_cases hlt : k < n
   ·have hbw := hb.below hbr
    obtain ⟨b, off, rfl, hc⟩ := hbw.2.2 (by omega)
    clear hc
    have HB : Hid (Bs wr (some ⟨b, off + k * 8, none⟩) 8 ((l.drop (k * 8)).take 8)) := hbw.sub (k * 8) 8 (by omega)
    have HS : Hid (decN l (k + 1) = decN l k ++ [dec ((l.drop (k * 8)).take 8)]) := by unfold Hid; rw [decN_succ, dec_take]
    have HR : Hid (∀ c : Nat, Calls Tryz.prog 36 #[.slice (some ⟨b, off + k * 8, none⟩) 8 c] wr fun e w' => e = .returned (dec ((l.drop (k * 8)).take 8)).val /\ Below wr.heap.size wr w') := fun c => read_any _ c _ wr HB.out
    clear hbw HB hb
    generalize dec ((l.drop (k * 8)).take 8) = x at *
    obtain ⟨xc, xt, xf, xk⟩ := x
    unfold In.val at *
    dsimp only at *
    have hp1 : Hid (n * 8 <= 100000 /\ k < n) := ⟨hlen, hlt⟩
    have hk8 : k * 8 + 8 <= n * 8 := by omega
    have hk9 : k * 8 + 8 <= cap := by omega
    have hbs := hbr.size
    go_wp2_with (first | (go_at_call 36; refine (HR.out _).mono ?_; rintro e w2 ⟨rfl, hb2⟩; have ho2 := owns_below ho hb2 (Nat.le_refl _); have hbw2 := hbr.trans (hb2.mono hbs)) | (at_builtin; refine append_in rfl (.tmp 20) (.tmp 27) rfl w.heap.size _ k (decN l k) rfl (ho2.alloc _) ⟨xc, xt, xf, xk⟩ _ rfl (new_cells w2 _ _ rfl) (by omega) (by rw [size_alloc']; have := hbw2.size; omega) ?_; intro v4 w4 ho4 hg4))
    go_roundw
    case rel =>
     have hb3 := hbw2.alloc hbw2.size (Obj.cells #[.int .u16 xc, .int .u8 xt, .int .u8 xf, .int .u32 xk] 60)
     exact ⟨k + 1, by omega, by go_num, by rw [HS.out]; exact ho4, hb3.grown hg4 hb3.size (owns_block ho2)⟩
    case measure => simp [intOf]; omega
   ·obtain rfl : k = n := by omega
    go_wp2
    go_ret2
    exact ⟨hbr, _, rfl, ho⟩
 ·have hd : decAll l = [] := by unfold decAll; rw [if_neg (by omega)]
  have he : errAll len = 3 := by unfold errAll; rw [if_neg h8]
  rw [hd, he]
  have hr8 : ¬ (Int.tmod (len : Int) 8 = 0) := by rw [Int.tmod_eq_emod_of_nonneg (by omega)]; omega
  clear hd he hb hll
  go_enter Tryz.func17, Tryz.ntmps17
  go_wp2
  go_ret2
  exact ⟨Below.refl _ _, _, rfl, rfl, .inl ⟨rfl, rfl⟩⟩
end Go.Proofs.YtcckipimfgmmdaaGreatDoor.I
