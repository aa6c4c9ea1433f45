/-
  VBase VSkips VOut VFirst VCheck.
-/
import Derived.Test.YtmcgcbgblgmmkaaGreatDoorQ15
set_option maxHeartbeats 4000000
namespace Go.Proofs.YtmcgcbgblgmmkaaGreatDoor.V
open F.D (ret_bool)
structure In where
 c : Int
 t : Int
 f : Int
 k : Int
def In.ok (x : In) : Prop := (0 <= x.c /\ x.c <= 65535) /\ (0 <= x.t /\ x.t <= 255) /\ (0 <= x.f /\ x.f <= 255) /\ (0 <= x.k /\ x.k <= 4294967295)
open Go.RowKit
theorem Tryz.info156 : (Tryz.prog.info? 156).map (fun i => (i.zero, i.size, i.bytes)) = some (some (.agg #[.int .u16 0, .int .u8 0, .int .u8 0, .int .u32 0]), 4, 8) := by kernel_rfl
def In.val (x : In) : Value := .agg #[.int .u16 x.c, .int .u8 x.t, .int .u8 x.f, .int .u32 x.k]
def In.cells (x : In) : List Value := [.int .u16 x.c, .int .u8 x.t, .int .u8 x.f, .int .u32 x.k]
def In.at (x : In) (w : World) (b o : Nat) : Prop :=
 w.cell? ⟨b, o, none⟩ = some (.int .u16 x.c) /\ w.cell? ⟨b, o + 1, none⟩ = some (.int .u8 x.t) /\ w.cell? ⟨b, o + 2, none⟩ = some (.int .u8 x.f) /\ w.cell? ⟨b, o + 3, none⟩ = some (.int .u32 x.k)
def Ins (w : World) (a : Option Addr) (len : Nat) (its : List In) : Prop :=
 its.length = len /\ (∀ x ∈ its, x.ok) /\ (0 < len -> ∃ b off, a = some ⟨b, off, none⟩ /\ ∀ (i : Nat) (x : In), its[i]? = some x -> x.at w b (off + i * 4))
theorem Ins.below {w w' : World} {a : Option Addr} {len : Nat} {its : List In} (h : Ins w a len its) (hb : Below w.heap.size w w') : Ins w' a len its := by
 refine ⟨h.1, h.2.1, fun h0 => ?_⟩
 obtain ⟨b, off, ha, hc⟩ := h.2.2 h0
 refine ⟨b, off, ha, fun i x hi => ?_⟩
 obtain ⟨h1, h2, h3, h4⟩ := hc i x hi
 have hlt : b < w.heap.size := World.block_lt_of_cell? w _ h1
 refine ⟨?_, ?_, ?_, ?_⟩
 ·rw [hb.cell (p := ⟨b, off + i * 4, none⟩) hlt]; exact h1
 ·rw [hb.cell (p := ⟨b, off + i * 4 + 1, none⟩) hlt]; exact h2
 ·rw [hb.cell (p := ⟨b, off + i * 4 + 2, none⟩) hlt]; exact h3
 ·rw [hb.cell (p := ⟨b, off + i * 4 + 3, none⟩) hlt]; exact h4
def cellsI (l : List In) : List Value := l.flatMap In.cells
theorem cellsI_snoc (l : List In) (x : In) : cellsI (l ++ [x]) = cellsI l ++ x.cells := by simp [cellsI]
theorem cellsI_length (l : List In) : (cellsI l).length = l.length * 4 := by
 induction l with
 | nil => rfl
 | cons x l ih =>
  show (x.cells ++ cellsI l).length = _
  rw [List.length_append, ih, List.length_cons, Nat.add_mul]
  show 4 + _ = _
  omega
theorem cellsI_get (l : List In) : ∀ (i : Nat) (x : In) (c : Nat), l[i]? = some x -> c < 4 -> (cellsI l)[i * 4 + c]? = x.cells[c]? := by
 induction l with
 | nil => intro i x c h; simp at h
 | cons y l ih =>
  intro i x c h hc
  show (y.cells ++ cellsI l)[i * 4 + c]? = _
  cases i with
  | zero =>
   simp at h
   subst h
   rw [List.getElem?_append_left (by show _ < 4; omega)]
   congr 1
   omega
  | succ i =>
   rw [List.getElem?_append_right (by show 4 <= _; omega)]
   rw [List.getElem?_cons_succ] at h
   rw [<- ih i x c h hc]
   congr 1
   show (i + 1) * 4 + c - 4 = _
   omega
theorem owns_ins {w : World} {base : Nat} {v : Value} {n : Nat} {l : List In} (h : w.ownsRow base 156 4 v n (cellsI l)) (hl : ∀ x ∈ l, x.ok) : ∃ a cap, v = .slice a n cap /\ Ins w a n l := by
 have hlen : l.length = n := by have := h.1; rw [cellsI_length] at this; omega
 rcases h.2 with ⟨rfl, rfl⟩ | ⟨g, cap, cur, rfl, hb, hg, hnc, hcm, hcs, htake⟩
 ·exact ⟨none, 0, rfl, hlen, hl, fun h => absurd h (by omega)⟩
 ·refine ⟨_, cap, rfl, hlen, hl, fun _ => ⟨g, 0, rfl, fun i x hx => ?_⟩⟩
  have key : ∀ c u, c < 4 -> x.cells[c]? = some u -> w.cell? ⟨g, 0 + i * 4 + c, none⟩ = some u := by
   intro c u hc hu
   have := h.cells (g := g) rfl (i * 4 + c) u (by rw [cellsI_get l i x c hx hc]; exact hu)
   rw [show (⟨g, 0 + i * 4 + c, none⟩ : Addr) = (⟨g, 0, none⟩ : Addr).add (i * 4 + c) from by unfold Addr.add; split <;> simp_all]
   exact this
  exact ⟨key 0 _ (by decide) rfl, key 1 _ (by decide) rfl, key 2 _ (by decide) rfl, key 3 _ (by decide) rfl⟩
theorem append_in {w : World} {ops : Array Oper} {rest : List Oper} {o : Oper} {a : Act} {Q : Exit -> Act -> World -> Prop} (hgd : o.guard = none) (s x : Operand)
  (ho : o.op = .call { callee := .builtin .append, args := #[s, x], argTypes := #[61, 61] })
  (base : Nat) (v : Value) (n : Nat) (l : List In) (hs : a.eval s = v) (hown : w.ownsRow base 156 4 v n (cellsI l))
  (it : In) (ad : Addr) (hx : a.eval x = .slice (some ad) 1 1) (hnews : ∀ j u, it.cells[j]? = some u -> w.cell? (ad.add j) = some u)
  (hn : n <= 1000000) (hbase : base <= w.heap.size)
  (h : ∀ v' w', w'.ownsRow base 156 4 v' (n + 1) (cellsI (l ++ [it])) -> w.grownBy w' v.ownBlock -> wpList Tryz.prog ops Q rest (a.put o.dst v') w') : wpList Tryz.prog ops Q (o :: rest) a w := by
 obtain ⟨i0, hi, hz0, hz1, hz2⟩ := info_parts Tryz.info156
 refine wpList_append_own _ hgd s x 61 ho base 156 i0 _ 4 8 Tryz.underlying61 hi hz0 hz1 hz2 rfl (by decide) v n (cellsI l) hs hown ad 1 1 it.cells hx rfl hnews (by intro u hu; simp [In.cells] at hu; rcases hu with rfl | rfl | rfl | rfl <;> rfl) (by unfold maxLen; omega) (by omega) hbase ?_
 intro v' w' h1 h2 _
 exact h v' w' (by rw [cellsI_snoc]; exact h1) h2
def Us (w : World) (a : Option Addr) (len : Nat) (l : List Int) : Prop :=
 l.length = len /\ ∃ b off, a = some ⟨b, off, none⟩ /\ ∀ i, i < len -> w.cell? ⟨b, off + i, none⟩ = some (.int .u16 (l.getD i 0))
def isIn (l : List Int) (c : Int) : Bool := l.contains c
theorem isIn_take (l : List Int) (c : Int) (k : Nat) (hk : k < l.length) : isIn (l.take (k + 1)) c = (isIn (l.take k) c || l.getD k 0 == c) := by
 have e1 : l.take (k + 1) = l.take k ++ [l[k]] := by rw [List.take_add_one, List.getElem?_eq_getElem hk]; rfl
 have e2 : l.getD k 0 = l[k] := by simp [hk]
 have e3 : (c == l[k]) = (l[k] == c) := Bool.beq_comm
 rw [e1, e2]
 unfold isIn
 rw [List.contains_eq_any_beq, List.contains_eq_any_beq, List.any_append, List.any_cons, List.any_nil, Bool.or_false, e3]
theorem isIn_get (l : List Int) (c : Int) (k : Nat) (hk : k < l.length) (h : l.getD k 0 = c) : isIn l c = true := by
 have e2 : l.getD k 0 = l[k] := by simp [hk]
 unfold isIn
 rw [<- h, e2]
 simp
def Idx (e : Ending) (b : Bool) : Prop := (∃ k : Nat, e = .returned (.int .i64 k) /\ b = true) \/ (e = .returned (.int .i64 (-1)) /\ b = false)
theorem index_any (a : Option Addr) (len cap : Nat) (l : List Int) (c : Int) (w : World) (hlen : len <= 100) (h : Us w a len l) :
  Calls Tryz.prog 203 #[.slice a len cap, .int .u16 c] w fun e w' => Idx e (isIn l c) /\ w' = w := by
 obtain ⟨hll, b, off, rfl, hc⟩ := h
 have HC : Hid (∀ i, i < len -> w.cell? ⟨b, off + i, none⟩ = some (.int .u16 (l.getD i 0))) := hc
 clear hc
 go_enter Tryz.func203, Tryz.ntmps203
 go_wp2
 go_loop [8] (fun i => ∃ k : Nat, k <= len /\ i = .int .i64 k /\ isIn (l.take k) c = false) (fun i => len - (intOf i).toNat)
 case atStart => exact ⟨0, Nat.zero_le _, rfl, rfl⟩
 case round =>
  obtain ⟨k, hk, rfl, hno⟩ := hrel
  by_cases hlt : k < len
  ·have hck := HC.out k hlt
   have HT : Hid (isIn (l.take (k + 1)) c = (isIn (l.take k) c || l.getD k 0 == c)) := isIn_take l c k (by omega)
   have HM : Hid (l.getD k 0 = c -> isIn l c = true) := isIn_get l c k (by omega)
   have HN : Hid (isIn (l.take k) c = false) := hno
   clear hno
   generalize l.getD k 0 = x at *
   by_cases hx : x = c
   ·have HF : Hid (isIn l c = true) := HM.out hx
    clear HM HT HN
    subst hx
    go_wp2
    go_ret
    exact ⟨.inl ⟨k, rfl, HF.out⟩, rfl⟩
   ·have hx2 : ¬ c = x := fun e => hx e.symm
    go_wp2
    go_round
    case rel => exact ⟨k + 1, by omega, by go_num, by rw [HT.out, HN.out]; simp [hx]⟩
    case measure => simp [intOf]; omega
  ·have hno' : Hid (isIn l c = false) := by unfold Hid; rw [List.take_of_length_le (by omega)] at hno; exact hno
   go_wp2
   go_ret
   exact ⟨.inr ⟨rfl, hno'.out⟩, rfl⟩
theorem contains_any (a : Option Addr) (len cap : Nat) (l : List Int) (c : Int) (w : World) (hlen : len <= 100) (h : Us w a len l) :
  Calls Tryz.prog 185 #[.slice a len cap, .int .u16 c] w fun e w' => e = .returned (.bool (isIn l c)) /\ w' = w := by
 go_enter Tryz.func185, Tryz.ntmps185
 go_wp2_with fail
 refine (index_any a len cap l c _ hlen h).mono ?_
 rintro e w2 ⟨⟨k, rfl, hz⟩ | ⟨rfl, hz⟩, rfl⟩
 ·go_wp2
  go_ret
  exact ⟨by rw [hz]; rfl, rfl⟩
 ·go_wp2
  go_ret
  exact ⟨by rw [hz]; rfl, rfl⟩
theorem byK_any (c : Int) (w : World) :
  Calls Tryz.prog 155 #[.int .u16 c] w fun e w' => e = .returned (.int .u16 (bits .andNot .u16 c 8)) /\ w' = w := by
 go_enter Tryz.func155, Tryz.ntmps155
 go_wp2
 go_ret
 exact ⟨rfl, rfl⟩
def aloneL : List Int := [32, 0, 1, 96, 97, 2, 3, 132, 5, 6, 22, 7, 135]
def compL : List Int := [4, 20, 36, 52, 68, 84, 100, 116, 164]
def cmpL : List Int := [21, 37, 53, 69]
theorem us_alone (w : World) : Us (w.alloc (.cells #[.int .u16 32, .int .u16 0, .int .u16 1, .int .u16 96, .int .u16 97, .int .u16 2, .int .u16 3, .int .u16 132, .int .u16 5, .int .u16 6, .int .u16 22, .int .u16 7, .int .u16 135] 154)) (some ⟨w.heap.size, 0, none⟩) 13 aloneL := by
 refine ⟨rfl, _, _, rfl, fun i hi => ?_⟩
 match i, hi with
 | 0, _ | 1, _ | 2, _ | 3, _ | 4, _ | 5, _ | 6, _ | 7, _ | 8, _ | 9, _ | 10, _ | 11, _ | 12, _ => simp [aloneL]
theorem alone_any (c : Int) (w : World) :
  Calls Tryz.prog 156 #[.int .u16 c] w fun e w' => e = .returned (.bool (isIn aloneL c)) /\ Below w.heap.size w w' := by
 have e1 : ∀ o, Below w.heap.size w (w.alloc o) := fun o => (Below.refl _ _).alloc (Nat.le_refl _) _
 have hu := us_alone w
 go_enter Tryz.func156, Tryz.ntmps156
 go_wp2_with (go_at_call 185; refine (contains_any _ 13 13 aloneL c _ (by decide) hu).mono ?_; rintro e w2 ⟨rfl, rfl⟩)
 go_ret
 exact ⟨rfl, e1 _⟩
theorem isIn_cons (a : Int) (l : List Int) (c : Int) : isIn (a :: l) c = (c == a || isIn l c) := rfl
theorem isIn_nil (c : Int) : isIn [] c = false := rfl
theorem compares_any (c : Int) (w : World) :
  Calls Tryz.prog 158 #[.int .u16 c] w fun e w' => e = .returned (.bool (isIn cmpL c)) /\ w' = w := by
 go_enter Tryz.func158, Tryz.ntmps158
 go_wp2
 all_goals (go_ret; exact ⟨ret_bool (by simp [cmpL, isIn_cons, isIn_nil, *]), rfl⟩)
theorem computes_any (c : Int) (w : World) :
  Calls Tryz.prog 157 #[.int .u16 c] w fun e w' => e = .returned (.bool (isIn compL c)) /\ w' = w := by
 go_enter Tryz.func157, Tryz.ntmps157
 go_wp2
 all_goals (go_ret; exact ⟨ret_bool (by simp [compL, isIn_cons, isIn_nil, *]), rfl⟩)
def endL : List Int := [6, 22]
theorem ends_any (c : Int) (w : World) :
  Calls Tryz.prog 129 #[.int .u16 c] w fun e w' => e = .returned (.bool (isIn endL c)) /\ w' = w := by
 go_enter Tryz.func129, Tryz.ntmps129
 go_wp2
 all_goals (go_ret; exact ⟨ret_bool (by simp [endL, isIn_cons, isIn_nil, *]), rfl⟩)
def kOf (c : Int) : Int := bits .andNot .u16 c 8
def jumpsB (c : Int) : Bool := c == 5 || isIn cmpL (kOf c)
def knownB (c : Int) : Bool := isIn aloneL c || isIn compL (kOf c) || isIn cmpL (kOf c)
theorem jumps_any (c : Int) (w : World) :
  Calls Tryz.prog 159 #[.int .u16 c] w fun e w' => e = .returned (.bool (jumpsB c)) /\ w' = w := by
 go_enter Tryz.func159, Tryz.ntmps159
 go_wp2_with (first | (go_at_call 155; refine (byK_any c _).mono ?_; rintro e w2 ⟨rfl, rfl⟩) | (go_at_call 158; refine (compares_any _ _).mono ?_; rintro e w2 ⟨rfl, rfl⟩))
 all_goals (go_ret; exact ⟨ret_bool (by simp [jumpsB, kOf, *]), rfl⟩)
theorem known_any (c : Int) (w : World) :
  Calls Tryz.prog 125 #[.int .u16 c] w fun e w' => e = .returned (.bool (knownB c)) /\ Below w.heap.size w w' := by
 go_enter Tryz.func125, Tryz.ntmps125
 go_wp2_with (first | (go_at_call 155; refine (byK_any c _).mono ?_; rintro e w2 ⟨rfl, rfl⟩) | (go_at_call 156; refine (alone_any c _).mono ?_; rintro e w2 ⟨rfl, hb⟩) | (go_at_call 157; refine (computes_any _ _).mono ?_; rintro e w3 ⟨rfl, rfl⟩) | (go_at_call 158; refine (compares_any _ _).mono ?_; rintro e w4 ⟨rfl, rfl⟩))
 all_goals (go_ret; exact ⟨ret_bool (by simp [knownB, kOf, *]), by assumption⟩)
def kNat (n : Nat) : Nat := n &&& 65527
theorem kOf_nat (n : Nat) (h : n < 65536) : kOf (n : Int) = (kNat n : Int) := u16_andNot_nat n 8 h (by decide)
theorem kNat_big (n : Nat) (h : n < 65536) (h2 : 256 <= n) : 256 <= kNat n := by
 have e : kNat n >>> 8 = n / 256 := by
  unfold kNat
  rw [Nat.shiftRight_and_distrib, show 65527 >>> 8 = 2 ^ 8 - 1 from rfl, Nat.and_two_pow_sub_one_eq_mod, Nat.shiftRight_eq_div_pow]
  exact Nat.mod_eq_of_lt (by omega)
 rw [Nat.shiftRight_eq_div_pow] at e
 have e2 : kNat n / 256 = n / 256 := e
 omega
def cellL : List Int := [96, 97, 2, 3]
def shiftL : List Int := [100, 116]
def skipsL (x : In) : List Int :=
 if isIn endL x.c = true then [] else if x.c = 5 then [x.k] else if jumpsB x.c = false then [0] else if x.t = x.f then [x.t] else if x.t < x.f then [x.t, x.f] else [x.f, x.t]
def insB (s : Int) (n : Nat) : Bool := decide (s < n)
def loadsB (c k : Int) : Bool := (c == 32 && (!decide (k % 4 = 0) || decide (64 <= k))) || (!(c == 32) && (isIn cellL c && decide (16 <= k)))
def reckB (c k : Int) : Bool := (c == 52 && k == 0) || (!(c == 52) && (isIn shiftL c && decide (31 < k)))
def outB (x : In) (n : Nat) : Bool := jumpsB x.c && (skipsL x).any (fun s => !insB s n)
def fault (x : In) (n : Nat) : Int :=
 if knownB x.c = false then 11 else if loadsB x.c x.k = true then 12 else if reckB x.c x.k = true then 13 else if outB x n = true then 14 else if n = 0 /\ isIn endL x.c = false then 15 else 0
def ff : List In -> Int -> Int × Int
 | [], _ => (0, -1)
 | x :: r, p => if fault x r.length = 0 then ff r (p + 1) else (fault x r.length, p)
def chk (l : List In) : Int × Int := if l.length = 0 then (10, 0) else if 4096 < l.length then (4, 4096) else ff l 0
theorem fault_range (x : In) (n : Nat) : 0 <= fault x n /\ fault x n <= 15 /\ fault x n ≠ 10 := by
 unfold fault
 repeat' split
 all_goals decide
theorem ff_drop_succ (l : List In) (k : Nat) (hk : k < l.length) (p : Int) : ff (l.drop k) p = if fault l[k] (l.length - 1 - k) = 0 then ff (l.drop (k + 1)) (p + 1) else (fault l[k] (l.length - 1 - k), p) := by
 rw [List.drop_eq_getElem_cons hk]
 show (if fault l[k] (l.drop (k + 1)).length = 0 then ff (l.drop (k + 1)) (p + 1) else (fault l[k] (l.drop (k + 1)).length, p)) = _
 rw [show (l.drop (k + 1)).length = l.length - 1 - k from by rw [List.length_drop]; omega]
theorem ff_bd (l : List In) (p : Int) : ((ff l p).1 = 0 /\ (ff l p).2 = -1) \/ (0 < (ff l p).1 /\ (ff l p).1 <= 15 /\ (ff l p).1 ≠ 10 /\ p <= (ff l p).2 /\ (ff l p).2 < p + l.length) := by
 induction l generalizing p with
 | nil => exact .inl ⟨rfl, rfl⟩
 | cons x r ih =>
  have hf := fault_range x r.length
  unfold ff
  by_cases h : fault x r.length = 0
  ·rw [if_pos h]
   rcases ih (p + 1) with h1 | h1
   ·exact .inl h1
   ·right
    rw [List.length_cons]
    omega
  ·rw [if_neg h, List.length_cons]
   right
   show 0 < fault x r.length /\ fault x r.length <= 15 /\ fault x r.length ≠ 10 /\ p <= p /\ p < p + _
   omega
theorem Tryz.info3 : (Tryz.prog.info? 3).map (fun i => (i.zero, i.size, i.bytes)) = some (some (.int .i64 0), 1, 8) := by kernel_rfl
def Ns (k : IntKind) (w : World) (a : Option Addr) (len : Nat) (l : List Int) : Prop :=
 l.length = len /\ (0 < len -> ∃ b off, a = some ⟨b, off, none⟩ /\ ∀ i, i < len -> w.cell? ⟨b, off + i, none⟩ = some (.int k (l.getD i 0)))
def cellsN (l : List Int) : List Value := l.map (Value.int .i64)
theorem cellsN_app (l m : List Int) : cellsN (l ++ m) = cellsN l ++ cellsN m := by simp [cellsN]
theorem owns_ns {w : World} {base : Nat} {v : Value} {n : Nat} {l : List Int} (h : w.ownsRow base 3 1 v n (cellsN l)) : ∃ a cap, v = .slice a n cap /\ Ns .i64 w a n l := by
 have hlen : l.length = n := by have := h.1; simpa [cellsN] using this
 rcases h.2 with ⟨rfl, rfl⟩ | ⟨g, cap, cur, rfl, hb, hg, hnc, hcm, hcs, htake⟩
 ·exact ⟨none, 0, rfl, hlen, fun h => absurd h (by omega)⟩
 ·refine ⟨_, cap, rfl, hlen, fun _ => ⟨g, 0, rfl, fun i hi => ?_⟩⟩
  have := h.cells (g := g) rfl i (.int .i64 (l.getD i 0)) (by simp [cellsN, List.getElem?_eq_getElem (show i < l.length from by omega)])
  rw [show (⟨g, 0 + i, none⟩ : Addr) = (⟨g, 0, none⟩ : Addr).add i from by unfold Addr.add; split <;> simp_all]
  exact this
theorem append_int {w : World} {ops : Array Oper} {rest : List Oper} {o : Oper} {a : Act} {Q : Exit -> Act -> World -> Prop} (hgd : o.guard = none) (s x : Operand)
  (ho : o.op = .call { callee := .builtin .append, args := #[s, x], argTypes := #[65, 65] })
  (base : Nat) (v : Value) (n : Nat) (l : List Int) (hs : a.eval s = v) (hown : w.ownsRow base 3 1 v n (cellsN l))
  (z : Int) (ad : Addr) (hx : a.eval x = .slice (some ad) 1 1) (hnew : w.cell? ad = some (.int .i64 z))
  (hn : n <= 1000000) (hbase : base <= w.heap.size)
  (h : ∀ v' w', w'.ownsRow base 3 1 v' (n + 1) (cellsN (l ++ [z])) -> w.grownBy w' v.ownBlock -> wpList Tryz.prog ops Q rest (a.put o.dst v') w') : wpList Tryz.prog ops Q (o :: rest) a w := by
 obtain ⟨i0, hi, hz0, hz1, hz2⟩ := info_parts Tryz.info3
 refine wpList_append_own _ hgd s x 65 ho base 3 i0 _ 1 8 Tryz.underlying65 hi hz0 hz1 hz2 rfl (by decide) v n (cellsN l) hs hown ad 1 1 (cellsN [z]) hx rfl ?_ (by intro u hu; simp [cellsN] at hu; subst hu; rfl) (by unfold maxLen; omega) (by omega) hbase ?_
 ·intro j u hu
  match j, hu with
  | 0, hu => cases hu; exact hnew
 ·intro v' w' h1 h2 _
  exact h v' w' (by rw [cellsN_app]; exact h1) h2
theorem cellsI_app (l m : List In) : cellsI (l ++ m) = cellsI l ++ cellsI m := by simp [cellsI]
theorem cellsI_kind (l : List In) : ∀ u ∈ cellsI l, u.oneCell' = true := by
 intro u hu
 simp only [cellsI, List.mem_flatMap] at hu
 obtain ⟨x, _, hu⟩ := hu
 simp [In.cells] at hu
 rcases hu with rfl | rfl | rfl | rfl <;> rfl
theorem Ins.news {w : World} {x : Addr} {len : Nat} {l : List In} (h : Ins w (some x) len l) : ∀ j u, (cellsI l)[j]? = some u -> w.cell? (x.add j) = some u := by
 intro j u hu
 have hj : j < l.length * 4 := by
  have := (List.getElem?_eq_some_iff.1 hu).1
  rw [cellsI_length] at this
  exact this
 obtain ⟨b, off, e, hc⟩ := h.2.2 (by have := h.1; omega)
 cases e
 have hd : j = j / 4 * 4 + j % 4 := by omega
 have hlt : j / 4 < l.length := by omega
 have hg := cellsI_get l (j / 4) l[j / 4] (j % 4) (List.getElem?_eq_getElem hlt) (by omega)
 rw [<- hd, hu] at hg
 obtain ⟨c0, c1, c2, c3⟩ := hc (j / 4) l[j / 4] (List.getElem?_eq_getElem hlt)
 rw [Addr.add_lit]
 have hm : j % 4 < 4 := by omega
 rw [show off + j = off + j / 4 * 4 + j % 4 from by omega]
 generalize j % 4 = c at *
 match c, hm with
 | 0, _ => rw [Nat.add_zero, c0]; exact hg.symm
 | 1, _ => rw [c1]; exact hg.symm
 | 2, _ => rw [c2]; exact hg.symm
 | 3, _ => rw [c3]; exact hg.symm
theorem Ins.nil {w : World} {len : Nat} {l : List In} (h : Ins w none len l) : len = 0 /\ l = [] := by
 have h0 : len = 0 := by
  rcases Nat.eq_zero_or_pos len with e | e
  ·exact e
  ·obtain ⟨_, _, e, _⟩ := h.2.2 e
   cases e
 exact ⟨h0, List.eq_nil_of_length_eq_zero (by rw [h.1, h0])⟩
theorem within_any (s : Int) (n : Nat) (w : World) (h0 : 0 <= s) (h1 : s <= 4294967295) (hn : n <= 1000000) :
  Calls Tryz.prog 161 #[.int .u32 s, .int .i64 n] w fun e w' => e = .returned (.bool (insB s n)) /\ w' = w := by
 have e1 : IntKind.u64.wrap s = s := by rw [IntKind.wrap_u64]; omega
 have e2 : IntKind.u64.wrap (n : Int) = n := by rw [IntKind.wrap_u64]; omega
 go_enter Tryz.func161, Tryz.ntmps161
 go_wp2
 go_ret
 exact ⟨ret_bool (by unfold insB; rfl), rfl⟩
theorem loads_any (x : In) (w : World) (hx : x.ok) :
  Calls Tryz.prog 126 #[x.val] w fun e w' => e = .returned (.bool (loadsB x.c x.k)) /\ Below w.heap.size w w' := by
 obtain ⟨c, t, f, k⟩ := x
 obtain ⟨-, -, -, hk⟩ := hx
 have e1 : ∀ o, Below w.heap.size w (w.alloc o) := fun o => (Below.refl _ _).alloc (Nat.le_refl _) _
 unfold In.val
 dsimp only at *
 go_enter Tryz.func126, Tryz.ntmps126
 go_wp2
 all_goals (go_ret; exact ⟨ret_bool (by simp [loadsB, cellL, isIn_cons, isIn_nil, *]), e1 _⟩)
theorem reck_any (x : In) (w : World) (hx : x.ok) :
  Calls Tryz.prog 127 #[x.val] w fun e w' => e = .returned (.bool (reckB x.c x.k)) /\ Below w.heap.size w w' := by
 obtain ⟨c, t, f, k⟩ := x
 obtain ⟨-, -, -, hk⟩ := hx
 have e1 : ∀ o, Below w.heap.size w (w.alloc o) := fun o => (Below.refl _ _).alloc (Nat.le_refl _) _
 unfold In.val
 dsimp only at *
 go_enter Tryz.func127, Tryz.ntmps127
 go_wp2
 all_goals (go_ret; exact ⟨ret_bool (by simp [reckB, shiftL, isIn_cons, isIn_nil, *]), e1 _⟩)
open F.D (size_alloc')
theorem ns_one (w : World) (a : Int) : Ns .u32 (w.alloc (.cells #[.int .u32 a] 31)) (some ⟨w.heap.size, 0, none⟩) 1 [a] := by
 refine ⟨rfl, fun _ => ⟨_, _, rfl, fun i hi => ?_⟩⟩
 match i, hi with
 | 0, _ => simp
theorem ns_two (w : World) (a b : Int) : Ns .u32 (w.alloc (.cells #[.int .u32 a, .int .u32 b] 31)) (some ⟨w.heap.size, 0, none⟩) 2 [a, b] := by
 refine ⟨rfl, fun _ => ⟨_, _, rfl, fun i hi => ?_⟩⟩
 match i, hi with
 | 0, _ | 1, _ => simp
def SkipsTold (w w' : World) (e : Ending) (l : List Int) : Prop := (∃ a, e = .returned (.slice a l.length l.length) /\ Ns .u32 w' a l.length l) /\ Below w.heap.size w w'
theorem skips_any (x : In) (w : World) (hx : x.ok) :
  Calls Tryz.prog 160 #[x.val] w fun e w' => SkipsTold w w' e (skipsL x) := by
 have HE : Hid (∀ W : World, Calls Tryz.prog 129 #[.int .u16 x.c] W fun e w' => e = .returned (.bool (isIn endL x.c)) /\ w' = W) := fun W => ends_any x.c W
 have HJ : Hid (∀ W : World, Calls Tryz.prog 159 #[.int .u16 x.c] W fun e w' => e = .returned (.bool (jumpsB x.c)) /\ w' = W) := fun W => jumps_any x.c W
 have HS : Hid (skipsL x = if isIn endL x.c = true then [] else if x.c = 5 then [x.k] else if jumpsB x.c = false then [0] else if x.t = x.f then [x.t] else if x.t < x.f then [x.t, x.f] else [x.f, x.t]) := rfl
 have HX : Hid x.ok := hx
 clear hx
 generalize skipsL x = sl at *
 obtain ⟨c, t, f, k⟩ := x
 unfold In.val
 dsimp only at *
 have e1 : ∀ o, Below w.heap.size w (w.alloc o) := fun o => (Below.refl _ _).alloc (Nat.le_refl _) _
 have e2 : ∀ o o', Below w.heap.size w ((w.alloc o).alloc o') := fun o o' => (e1 o).alloc (by rw [size_alloc']; omega) _
 have n1 : ∀ (o : Obj) (a : Int), Ns .u32 ((w.alloc o).alloc (.cells #[.int .u32 a] 31)) (some ⟨w.heap.size + 1, 0, none⟩) 1 [a] := fun o a => by have := ns_one (w.alloc o) a; rw [size_alloc'] at this; exact this
 have n2 : ∀ (o : Obj) (a b : Int), Ns .u32 ((w.alloc o).alloc (.cells #[.int .u32 a, .int .u32 b] 31)) (some ⟨w.heap.size + 1, 0, none⟩) 2 [a, b] := fun o a b => by have := ns_two (w.alloc o) a b; rw [size_alloc'] at this; exact this
 have wt : IntKind.u32.wrap t = t := by have := HX.out; unfold In.ok at this; dsimp only at this; rw [IntKind.wrap_u32]; omega
 have wf : IntKind.u32.wrap f = f := by have := HX.out; unfold In.ok at this; dsimp only at this; rw [IntKind.wrap_u32]; omega
 generalize isIn endL c = p at *
 generalize jumpsB c = q at *
 cases p with
 | true =>
  have hs : Hid (sl = []) := by unfold Hid; rw [HS.out, if_pos rfl]
  clear HS
  go_enter Tryz.func160, Tryz.ntmps160
  go_wp2_with (go_at_call 129; refine (HE.out _).mono ?_; rintro e w2 ⟨rfl, rfl⟩)
  go_ret
  rw [hs.out]
  exact ⟨⟨none, rfl, rfl, fun h => absurd h (by decide)⟩, e1 _⟩
 | false =>
  by_cases hc : c = 5
  ·have hs : Hid (sl = [k]) := by unfold Hid; rw [HS.out, if_neg (by decide), if_pos hc]
   clear HS
   subst hc
   go_enter Tryz.func160, Tryz.ntmps160
   go_wp2_with (go_at_call 129; refine (HE.out _).mono ?_; rintro e w2 ⟨rfl, rfl⟩)
   go_ret
   rw [hs.out]
   exact ⟨⟨_, rfl, n1 _ _⟩, e2 _ _⟩
  ·cases q with
   | false =>
    have hs : Hid (sl = [0]) := by unfold Hid; rw [HS.out, if_neg (by decide), if_neg hc, if_pos rfl]
    clear HS
    go_enter Tryz.func160, Tryz.ntmps160
    go_wp2_with (first | (go_at_call 129; refine (HE.out _).mono ?_; rintro e w2 ⟨rfl, rfl⟩) | (go_at_call 159; refine (HJ.out _).mono ?_; rintro e w2 ⟨rfl, rfl⟩))
    go_ret
    rw [hs.out]
    exact ⟨⟨_, rfl, n1 _ _⟩, e2 _ _⟩
   | true =>
    by_cases htf : t = f
    ·have hs : Hid (sl = [t]) := by unfold Hid; rw [HS.out, if_neg (by decide), if_neg hc, if_neg (by decide), if_pos htf]
     clear HS
     subst htf
     go_enter Tryz.func160, Tryz.ntmps160
     go_wp2_with (first | (go_at_call 129; refine (HE.out _).mono ?_; rintro e w2 ⟨rfl, rfl⟩) | (go_at_call 159; refine (HJ.out _).mono ?_; rintro e w2 ⟨rfl, rfl⟩))
     go_ret
     rw [hs.out]
     exact ⟨⟨_, rfl, n1 _ _⟩, e2 _ _⟩
    ·by_cases hl : t < f
     ·have hs : Hid (sl = [t, f]) := by unfold Hid; rw [HS.out, if_neg (by decide), if_neg hc, if_neg (by decide), if_neg htf, if_pos hl]
      clear HS
      go_enter Tryz.func160, Tryz.ntmps160
      go_wp2_with (first | (go_at_call 129; refine (HE.out _).mono ?_; rintro e w2 ⟨rfl, rfl⟩) | (go_at_call 159; refine (HJ.out _).mono ?_; rintro e w2 ⟨rfl, rfl⟩))
      go_ret
      rw [hs.out]
      exact ⟨⟨_, rfl, n2 _ _ _⟩, e2 _ _⟩
     ·have hs : Hid (sl = [f, t]) := by unfold Hid; rw [HS.out, if_neg (by decide), if_neg hc, if_neg (by decide), if_neg htf, if_neg hl]
      have hl2 : f < t := by omega
      clear HS
      go_enter Tryz.func160, Tryz.ntmps160
      go_wp2_with (first | (go_at_call 129; refine (HE.out _).mono ?_; rintro e w2 ⟨rfl, rfl⟩) | (go_at_call 159; refine (HJ.out _).mono ?_; rintro e w2 ⟨rfl, rfl⟩))
      go_ret
      rw [hs.out]
      exact ⟨⟨_, rfl, n2 _ _ _⟩, e2 _ _⟩
theorem skips_bd (x : In) (hx : x.ok) : (skipsL x).length <= 2 /\ ∀ s ∈ skipsL x, 0 <= s /\ s <= 4294967295 := by
 obtain ⟨c, t, f, k⟩ := x
 unfold In.ok at hx
 dsimp only at hx
 unfold skipsL
 dsimp only
 repeat' split
 all_goals (refine ⟨by simp, ?_⟩; intro s hs; simp at hs; try omega)
def anyOut (l : List Int) (n : Nat) : Bool := l.any (fun s => !insB s n)
theorem anyOut_take (l : List Int) (n k : Nat) (hk : k < l.length) : anyOut (l.take (k + 1)) n = (anyOut (l.take k) n || !insB (l.getD k 0) n) := by
 have e1 : l.take (k + 1) = l.take k ++ [l[k]] := by rw [List.take_add_one, List.getElem?_eq_getElem hk]; rfl
 have e2 : l.getD k 0 = l[k] := by simp [hk]
 rw [e1, e2]
 unfold anyOut
 rw [List.any_append, List.any_cons, List.any_nil, Bool.or_false]
theorem anyOut_get (l : List Int) (n k : Nat) (hk : k < l.length) (h : insB (l.getD k 0) n = false) : anyOut l n = true := by
 have e2 : l.getD k 0 = l[k] := by simp [hk]
 unfold anyOut
 rw [List.any_eq_true]
 exact ⟨l[k], List.getElem_mem hk, by rw [<- e2, h]; rfl⟩
theorem out_any (x : In) (n : Nat) (w : World) (hx : x.ok) (hn : n <= 1000000) :
  Calls Tryz.prog 128 #[x.val, .int .i64 n] w fun e w' => e = .returned (.bool (outB x n)) /\ Below w.heap.size w w' := by
 obtain ⟨hl2, hbd⟩ := skips_bd x hx
 have HJ : Hid (∀ W : World, Calls Tryz.prog 159 #[.int .u16 x.c] W fun e w' => e = .returned (.bool (jumpsB x.c)) /\ w' = W) := fun W => jumps_any x.c W
 have HK : Hid (∀ W : World, Calls Tryz.prog 160 #[x.val] W fun e w' => SkipsTold W w' e (skipsL x)) := fun W => skips_any x W hx
 have HB : Hid (∀ s ∈ skipsL x, 0 <= s /\ s <= 4294967295) := hbd
 have HO : Hid (outB x n = (jumpsB x.c && anyOut (skipsL x) n)) := rfl
 clear hbd hx
 generalize skipsL x = sl at *
 generalize outB x n = ob at *
 obtain ⟨c, t, f, k⟩ := x
 unfold In.val at *
 dsimp only at *
 generalize jumpsB c = q at *
 have e1 : ∀ o, Below w.heap.size w (w.alloc o) := fun o => (Below.refl _ _).alloc (Nat.le_refl _) _
 cases q with
 | false =>
  have ho : Hid (ob = false) := HO.out
  clear HO
  go_enter Tryz.func128, Tryz.ntmps128
  go_wp2_with (go_at_call 159; refine (HJ.out _).mono ?_; rintro e w2 ⟨rfl, rfl⟩)
  go_ret
  exact ⟨ret_bool ho.out.symm, e1 _⟩
 | true =>
  have ho : Hid (ob = anyOut sl n) := by unfold Hid; rw [HO.out, Bool.true_and]
  clear HO
  go_enter Tryz.func128, Tryz.ntmps128
  go_wp2_with (first | (go_at_call 159; refine (HJ.out _).mono ?_; rintro e w2 ⟨rfl, rfl⟩) | (go_at_call 160; refine (HK.out _).mono ?_; rintro e w3 ⟨⟨a3, rfl, n3⟩, b3⟩))
  have hb := (e1 _).trans (b3.mono (by rw [size_alloc']; omega))
  have hll := n3.1
  go_loop [14] (fun i => ∃ k : Nat, k <= sl.length /\ i = .int .i64 k /\ anyOut (sl.take k) n = false) (fun i => sl.length - (intOf i).toNat)
  case atStart => exact ⟨0, Nat.zero_le _, rfl, rfl⟩
  case round =>
   obtain ⟨k, hk, rfl, hno⟩ := hrel
   have HN : Hid (anyOut (sl.take k) n = false) := hno
   clear hno
   by_cases hlt : k < sl.length
   ·obtain ⟨b, off, rfl, hc⟩ := n3.2 (by omega)
    have hck := hc k hlt
    clear hc
    have hs := HB.out (sl.getD k 0) (by simp [hlt])
    have HT : Hid (anyOut (sl.take (k + 1)) n = (anyOut (sl.take k) n || !insB (sl.getD k 0) n)) := anyOut_take sl n k hlt
    have HG : Hid (insB (sl.getD k 0) n = false -> anyOut sl n = true) := anyOut_get sl n k hlt
    have HW : Hid (∀ W : World, Calls Tryz.prog 161 #[.int .u32 (sl.getD k 0), .int .i64 n] W fun e w' => e = .returned (.bool (insB (sl.getD k 0) n)) /\ w' = W) := fun W => within_any (sl.getD k 0) n W hs.1 hs.2 hn
    clear hs
    generalize insB (sl.getD k 0) n = ib at *
    generalize sl.getD k 0 = s at *
    cases ib with
    | true =>
     go_wp2_with (go_at_call 161; refine (HW.out _).mono ?_; rintro e w5 ⟨rfl, rfl⟩)
     go_round
     case rel => exact ⟨k + 1, by omega, by go_num, by rw [HT.out, HN.out]; rfl⟩
     case measure => simp [intOf]; omega
    | false =>
     have HG2 : Hid (anyOut sl n = true) := HG.out rfl
     go_wp2_with (go_at_call 161; refine (HW.out _).mono ?_; rintro e w5 ⟨rfl, rfl⟩)
     go_ret
     exact ⟨ret_bool (by rw [ho.out, HG2.out]), hb⟩
   ·have HN2 : Hid (anyOut sl n = false) := by have := HN.out; rw [List.take_of_length_le (by omega)] at this; exact this
    clear n3
    go_wp2
    go_ret
    exact ⟨ret_bool (by rw [ho.out, HN2.out]), hb⟩
theorem ff_at (l : List In) (k n : Nat) (hk : k < l.length) (hn : n = l.length - 1 - k) (p : Int) : ff (l.drop k) p = if fault l[k] n = 0 then ff (l.drop (k + 1)) (p + 1) else (fault l[k] n, p) := by
 subst hn
 exact ff_drop_succ l k hk p
theorem In.at.below {x : In} {w w' : World} {b o : Nat} (h : x.at w b o) (hb : Below w.heap.size w w') : x.at w' b o := by
 obtain ⟨h1, h2, h3, h4⟩ := h
 have hlt : b < w.heap.size := World.block_lt_of_cell? w _ h1
 refine ⟨?_, ?_, ?_, ?_⟩
 ·rw [hb.cell (p := ⟨b, o, none⟩) hlt]; exact h1
 ·rw [hb.cell (p := ⟨b, o + 1, none⟩) hlt]; exact h2
 ·rw [hb.cell (p := ⟨b, o + 2, none⟩) hlt]; exact h3
 ·rw [hb.cell (p := ⟨b, o + 3, none⟩) hlt]; exact h4
theorem In.at.four {c t f k : Int} {w : World} {b : Nat} (h : In.at ⟨c, t, f, k⟩ w b 0) : w.cell? ⟨b, 0, none⟩ = some (.int .u16 c) /\ w.cell? ⟨b, 1, none⟩ = some (.int .u8 t) /\ w.cell? ⟨b, 2, none⟩ = some (.int .u8 f) /\ w.cell? ⟨b, 3, none⟩ = some (.int .u32 k) := h
theorem at_new (w : World) (x : In) : x.at (w.alloc (Obj.cells #[.int .u16 x.c, .int .u8 x.t, .int .u8 x.f, .int .u32 x.k] 156)) w.heap.size 0 := by
 refine ⟨?_, ?_, ?_, ?_⟩ <;> simp
theorem ret_pair {a b c d : Int} (h : (a, b) = (c, d)) : Ending.returned (.tuple #[.int .i64 a, .int .i64 b]) = .returned (.tuple #[.int .i64 c, .int .i64 d]) := by
 cases h; rfl
theorem first_any (a : Option Addr) (len cap : Nat) (ins : List In) (w : World) (hlen : len <= 100000) (h : Ins w a len ins) :
  Calls Tryz.prog 79 #[.slice a len cap] w fun e w' => e = .returned (.tuple #[.int .i64 (ff ins 0).1, .int .i64 (ff ins 0).2]) /\ Below w.heap.size w w' := by
 have hll := h.1
 have HF : Hid (∀ p, ff [] p = (0, -1)) := fun _ => rfl
 generalize hz : ff ins 0 = z
 obtain ⟨z1, z2⟩ := z
 have HZ : Hid (ff ins 0 = (z1, z2)) := hz
 clear hz
 dsimp only
 go_enter Tryz.func79, Tryz.ntmps79
 go_wp2
 go_step3
 go_wp2
 go_step3
 go_wp2
 go_loopw [2, 3, 10] (fun r2 r3 i wr => ∃ k : Nat, k <= len /\ i = .int .i64 k /\ ff (ins.drop k) k = (z1, z2) /\ Below w.heap.size w wr) (fun _ _ i _ => len - (intOf i).toNat)
 case atStart => exact ⟨0, Nat.zero_le _, rfl, HZ.out, Below.refl _ _⟩
 case round =>
  obtain ⟨k, hk, rfl, hst, hbr⟩ := hrel
  by_cases hlt : k < len
  ·have hir := h.below hbr
   obtain ⟨b, off, rfl, hc⟩ := hir.2.2 (by omega)
   obtain ⟨q1, q2, q3, q4⟩ := hc k ins[k] (List.getElem?_eq_getElem (by omega))
   have HO : Hid (ins[k].ok) := hir.2.1 ins[k] (List.getElem_mem (by omega))
   have HS : Hid (ff (ins.drop k) k = if fault ins[k] (len - 1 - k) = 0 then ff (ins.drop (k + 1)) (k + 1 : Nat) else (fault ins[k] (len - 1 - k), k)) := by
    exact ff_at ins k (len - 1 - k) (by omega) (by omega) k
   have HT : Hid (ff (ins.drop k) k = (z1, z2)) := hst
   clear hc hir h hst
   generalize ins[k] = x at *
   have hbh : (len : Int) - 1 - k = ((len - 1 - k : Nat) : Int) := by omega
   have HK : Hid (∀ W : World, Calls Tryz.prog 125 #[.int .u16 x.c] W fun e w' => e = .returned (.bool (knownB x.c)) /\ Below W.heap.size W w') := fun W => known_any x.c W
   have HL : Hid (∀ W : World, Calls Tryz.prog 126 #[x.val] W fun e w' => e = .returned (.bool (loadsB x.c x.k)) /\ Below W.heap.size W w') := fun W => loads_any x W HO.out
   have HR : Hid (∀ W : World, Calls Tryz.prog 127 #[x.val] W fun e w' => e = .returned (.bool (reckB x.c x.k)) /\ Below W.heap.size W w') := fun W => reck_any x W HO.out
   have HU : Hid (∀ W : World, Calls Tryz.prog 128 #[x.val, .int .i64 ((len - 1 - k : Nat) : Int)] W fun e w' => e = .returned (.bool (outB x (len - 1 - k))) /\ Below W.heap.size W w') := fun W => out_any x (len - 1 - k) W HO.out (by omega)
   have HE : Hid (∀ W : World, Calls Tryz.prog 129 #[.int .u16 x.c] W fun e w' => e = .returned (.bool (isIn endL x.c)) /\ w' = W) := fun W => ends_any x.c W
   have HF : Hid (fault x (len - 1 - k) = if knownB x.c = false then 11 else if loadsB x.c x.k = true then 12 else if reckB x.c x.k = true then 13 else if outB x (len - 1 - k) = true then 14 else if len - 1 - k = 0 /\ isIn endL x.c = false then 15 else 0) := rfl
   clear HO
   generalize outB x (len - 1 - k) = bo at *
   generalize fault x (len - 1 - k) = fx at *
   obtain ⟨xc, xt, xf, xk⟩ := x
   unfold In.val at *
   dsimp only at *
   generalize knownB xc = bk at *
   generalize loadsB xc xk = bl at *
   generalize reckB xc xk = br at *
   generalize isIn endL xc = be at *
   generalize len - 1 - k = nn at *
   have B0 := hbr.alloc hbr.size (Obj.cells #[.int .u16 xc, .int .u8 xt, .int .u8 xf, .int .u32 xk] 156)
   have A0 : In.at ⟨xc, xt, xf, xk⟩ (wr.alloc (Obj.cells #[.int .u16 xc, .int .u8 xt, .int .u8 xf, .int .u32 xk] 156)) wr.heap.size 0 := at_new wr ⟨xc, xt, xf, xk⟩
   have hi1 : (k : Int) < (len : Int) := by omega
   cases bk with
   | false =>
    have hf : fx = 11 := HF.out
    have HZ2 : Hid ((11, (k : Int)) = (z1, z2)) := by have := HS.out; rw [hf, if_neg (by decide)] at this; exact this.symm.trans HT.out
    clear HF HS HT HZ hf
    go_wp2_with (first | (go_at_call 125; refine (HK.out _).mono ?_; rintro e w1 ⟨rfl, b1⟩; have B1 := B0.trans (b1.mono B0.size); have A1 := A0.below b1; obtain ⟨p1, r1, s1, t1⟩ := A1.four) | (go_at_call 126; refine (HL.out _).mono ?_; rintro e w2 ⟨rfl, b2⟩; have B2 := B1.trans (b2.mono B1.size); have A2 := A1.below b2; obtain ⟨p2, r2, s2, t2⟩ := A2.four) | (go_at_call 127; refine (HR.out _).mono ?_; rintro e w3 ⟨rfl, b3⟩; have B3 := B2.trans (b3.mono B2.size); have A3 := A2.below b3; obtain ⟨p3, r3, s3, t3⟩ := A3.four) | (go_at_call 128; refine (HU.out _).mono ?_; rintro e w4 ⟨rfl, b4⟩; have B4 := B3.trans (b4.mono B3.size); have A4 := A3.below b4; obtain ⟨p4, r4, s4, t4⟩ := A4.four) | (go_at_call 129; refine (HE.out _).mono ?_; rintro e w5 ⟨rfl, rfl⟩))
    rw [Exit.noGoto_ret]
    go_ret2
    exact ⟨ret_pair HZ2.out, B1⟩
   | true =>
    cases bl with
    | true =>
     have hf : fx = 12 := HF.out
     have HZ2 : Hid ((12, (k : Int)) = (z1, z2)) := by have := HS.out; rw [hf, if_neg (by decide)] at this; exact this.symm.trans HT.out
     clear HF HS HT HZ hf
     go_wp2_with (first | (go_at_call 125; refine (HK.out _).mono ?_; rintro e w1 ⟨rfl, b1⟩; have B1 := B0.trans (b1.mono B0.size); have A1 := A0.below b1; obtain ⟨p1, r1, s1, t1⟩ := A1.four) | (go_at_call 126; refine (HL.out _).mono ?_; rintro e w2 ⟨rfl, b2⟩; have B2 := B1.trans (b2.mono B1.size); have A2 := A1.below b2; obtain ⟨p2, r2, s2, t2⟩ := A2.four) | (go_at_call 127; refine (HR.out _).mono ?_; rintro e w3 ⟨rfl, b3⟩; have B3 := B2.trans (b3.mono B2.size); have A3 := A2.below b3; obtain ⟨p3, r3, s3, t3⟩ := A3.four) | (go_at_call 128; refine (HU.out _).mono ?_; rintro e w4 ⟨rfl, b4⟩; have B4 := B3.trans (b4.mono B3.size); have A4 := A3.below b4; obtain ⟨p4, r4, s4, t4⟩ := A4.four) | (go_at_call 129; refine (HE.out _).mono ?_; rintro e w5 ⟨rfl, rfl⟩))
     rw [Exit.noGoto_ret]
     go_ret2
     exact ⟨ret_pair HZ2.out, B2⟩
    | false =>
     cases br with
     | true =>
      have hf : fx = 13 := HF.out
      have HZ2 : Hid ((13, (k : Int)) = (z1, z2)) := by have := HS.out; rw [hf, if_neg (by decide)] at this; exact this.symm.trans HT.out
      clear HF HS HT HZ hf
      go_wp2_with (first | (go_at_call 125; refine (HK.out _).mono ?_; rintro e w1 ⟨rfl, b1⟩; have B1 := B0.trans (b1.mono B0.size); have A1 := A0.below b1; obtain ⟨p1, r1, s1, t1⟩ := A1.four) | (go_at_call 126; refine (HL.out _).mono ?_; rintro e w2 ⟨rfl, b2⟩; have B2 := B1.trans (b2.mono B1.size); have A2 := A1.below b2; obtain ⟨p2, r2, s2, t2⟩ := A2.four) | (go_at_call 127; refine (HR.out _).mono ?_; rintro e w3 ⟨rfl, b3⟩; have B3 := B2.trans (b3.mono B2.size); have A3 := A2.below b3; obtain ⟨p3, r3, s3, t3⟩ := A3.four) | (go_at_call 128; refine (HU.out _).mono ?_; rintro e w4 ⟨rfl, b4⟩; have B4 := B3.trans (b4.mono B3.size); have A4 := A3.below b4; obtain ⟨p4, r4, s4, t4⟩ := A4.four) | (go_at_call 129; refine (HE.out _).mono ?_; rintro e w5 ⟨rfl, rfl⟩))
      rw [Exit.noGoto_ret]
      go_ret2
      exact ⟨ret_pair HZ2.out, B3⟩
     | false =>
      cases bo with
      | true =>
       have hf : fx = 14 := HF.out
       have HZ2 : Hid ((14, (k : Int)) = (z1, z2)) := by have := HS.out; rw [hf, if_neg (by decide)] at this; exact this.symm.trans HT.out
       clear HF HS HT HZ hf
       go_wp2_with (first | (go_at_call 125; refine (HK.out _).mono ?_; rintro e w1 ⟨rfl, b1⟩; have B1 := B0.trans (b1.mono B0.size); have A1 := A0.below b1; obtain ⟨p1, r1, s1, t1⟩ := A1.four) | (go_at_call 126; refine (HL.out _).mono ?_; rintro e w2 ⟨rfl, b2⟩; have B2 := B1.trans (b2.mono B1.size); have A2 := A1.below b2; obtain ⟨p2, r2, s2, t2⟩ := A2.four) | (go_at_call 127; refine (HR.out _).mono ?_; rintro e w3 ⟨rfl, b3⟩; have B3 := B2.trans (b3.mono B2.size); have A3 := A2.below b3; obtain ⟨p3, r3, s3, t3⟩ := A3.four) | (go_at_call 128; refine (HU.out _).mono ?_; rintro e w4 ⟨rfl, b4⟩; have B4 := B3.trans (b4.mono B3.size); have A4 := A3.below b4; obtain ⟨p4, r4, s4, t4⟩ := A4.four) | (go_at_call 129; refine (HE.out _).mono ?_; rintro e w5 ⟨rfl, rfl⟩))
       rw [Exit.noGoto_ret]
       go_ret2
       exact ⟨ret_pair HZ2.out, B4⟩
      | false =>
       by_cases hn0 : nn = 0
       ·have hnz : ((nn : Int) == 0) = true := by rw [hn0]; rfl
        cases be with
        | false =>
         have hf : fx = 15 := by rw [HF.out]; simp [hn0]
         have HZ2 : Hid ((15, (k : Int)) = (z1, z2)) := by have := HS.out; rw [hf, if_neg (by decide)] at this; exact this.symm.trans HT.out
         clear HF HS HT HZ hf hn0
         go_wp2_with (first | (go_at_call 125; refine (HK.out _).mono ?_; rintro e w1 ⟨rfl, b1⟩; have B1 := B0.trans (b1.mono B0.size); have A1 := A0.below b1; obtain ⟨p1, r1, s1, t1⟩ := A1.four) | (go_at_call 126; refine (HL.out _).mono ?_; rintro e w2 ⟨rfl, b2⟩; have B2 := B1.trans (b2.mono B1.size); have A2 := A1.below b2; obtain ⟨p2, r2, s2, t2⟩ := A2.four) | (go_at_call 127; refine (HR.out _).mono ?_; rintro e w3 ⟨rfl, b3⟩; have B3 := B2.trans (b3.mono B2.size); have A3 := A2.below b3; obtain ⟨p3, r3, s3, t3⟩ := A3.four) | (go_at_call 128; refine (HU.out _).mono ?_; rintro e w4 ⟨rfl, b4⟩; have B4 := B3.trans (b4.mono B3.size); have A4 := A3.below b4; obtain ⟨p4, r4, s4, t4⟩ := A4.four) | (go_at_call 129; refine (HE.out _).mono ?_; rintro e w5 ⟨rfl, rfl⟩))
         rw [Exit.noGoto_ret]
         go_ret2
         exact ⟨ret_pair HZ2.out, B4⟩
        | true =>
         have hf : fx = 0 := by rw [HF.out]; simp
         have HZ2 : Hid (ff (ins.drop (k + 1)) (k + 1 : Nat) = (z1, z2)) := by have := HS.out; rw [hf, if_pos rfl] at this; exact this.symm.trans HT.out
         clear HF HS HT HZ hf hn0
         go_wp2_with (first | (go_at_call 125; refine (HK.out _).mono ?_; rintro e w1 ⟨rfl, b1⟩; have B1 := B0.trans (b1.mono B0.size); have A1 := A0.below b1; obtain ⟨p1, r1, s1, t1⟩ := A1.four) | (go_at_call 126; refine (HL.out _).mono ?_; rintro e w2 ⟨rfl, b2⟩; have B2 := B1.trans (b2.mono B1.size); have A2 := A1.below b2; obtain ⟨p2, r2, s2, t2⟩ := A2.four) | (go_at_call 127; refine (HR.out _).mono ?_; rintro e w3 ⟨rfl, b3⟩; have B3 := B2.trans (b3.mono B2.size); have A3 := A2.below b3; obtain ⟨p3, r3, s3, t3⟩ := A3.four) | (go_at_call 128; refine (HU.out _).mono ?_; rintro e w4 ⟨rfl, b4⟩; have B4 := B3.trans (b4.mono B3.size); have A4 := A3.below b4; obtain ⟨p4, r4, s4, t4⟩ := A4.four) | (go_at_call 129; refine (HE.out _).mono ?_; rintro e w5 ⟨rfl, rfl⟩))
         go_roundw
         case rel => exact ⟨k + 1, by omega, by go_num, HZ2.out, B4⟩
         case measure => simp [intOf]; omega
       ·have hnz : ((nn : Int) == 0) = false := by rw [beq_eq_false_iff_ne]; omega
        have hf : fx = 0 := by rw [HF.out]; simp [hn0]
        have HZ2 : Hid (ff (ins.drop (k + 1)) (k + 1 : Nat) = (z1, z2)) := by have := HS.out; rw [hf, if_pos rfl] at this; exact this.symm.trans HT.out
        clear HF HS HT HZ hf hn0
        go_wp2_with (first | (go_at_call 125; refine (HK.out _).mono ?_; rintro e w1 ⟨rfl, b1⟩; have B1 := B0.trans (b1.mono B0.size); have A1 := A0.below b1; obtain ⟨p1, r1, s1, t1⟩ := A1.four) | (go_at_call 126; refine (HL.out _).mono ?_; rintro e w2 ⟨rfl, b2⟩; have B2 := B1.trans (b2.mono B1.size); have A2 := A1.below b2; obtain ⟨p2, r2, s2, t2⟩ := A2.four) | (go_at_call 127; refine (HR.out _).mono ?_; rintro e w3 ⟨rfl, b3⟩; have B3 := B2.trans (b3.mono B2.size); have A3 := A2.below b3; obtain ⟨p3, r3, s3, t3⟩ := A3.four) | (go_at_call 128; refine (HU.out _).mono ?_; rintro e w4 ⟨rfl, b4⟩; have B4 := B3.trans (b4.mono B3.size); have A4 := A3.below b4; obtain ⟨p4, r4, s4, t4⟩ := A4.four) | (go_at_call 129; refine (HE.out _).mono ?_; rintro e w5 ⟨rfl, rfl⟩))
        go_roundw
        case rel => exact ⟨k + 1, by omega, by go_num, HZ2.out, B4⟩
        case measure => simp [intOf]; omega
  ·have HN : Hid ((0, -1) = (z1, z2)) := by rw [List.drop_eq_nil_of_le (by omega)] at hst; exact hst
   clear hst
   go_wp2
   rw [Exit.noGoto_ret]
   go_ret2
   exact ⟨ret_pair HN.out, hbr⟩
def Told (w w' : World) (e : Ending) (p : Int × Int) : Prop := e = .returned (.tuple #[.int .i64 p.1, .int .i64 p.2]) /\ Below w.heap.size w w'
theorem check_any (a : Option Addr) (len cap : Nat) (ins : List In) (w : World) (hlen : len <= maxLen) (h : Ins w a len ins) :
  Calls Tryz.prog 38 #[.slice a len cap] w fun e w' => Told w w' e (chk ins) := by
 have hll := h.1
 unfold maxLen at hlen
 by_cases h0 : len = 0
 ·have hc : Hid (chk ins = (10, 0)) := by unfold Hid chk; rw [if_pos (by omega)]
  subst h0
  generalize chk ins = p at *
  clear h hll
  go_enter Tryz.func38, Tryz.ntmps38
  go_wp2
  go_ret2
  rw [hc.out]
  exact ⟨rfl, Below.refl _ _⟩
 ·by_cases h4 : 4096 < len
  ·have hc : Hid (chk ins = (4, 4096)) := by unfold Hid chk; rw [if_neg (by omega), if_pos (by omega)]
   generalize chk ins = p at *
   clear h hll
   have hz : ¬ (len : Int) = 0 := by omega
   have hd : decide ((4096 : Int) < (len : Int)) = true := by simp; omega
   go_enter Tryz.func38, Tryz.ntmps38
   go_wp2
   go_ret2
   rw [hc.out]
   exact ⟨rfl, Below.refl _ _⟩
  ·have hc : Hid (chk ins = ff ins 0) := by unfold Hid chk; rw [if_neg (by omega), if_neg (by omega)]
   have HF : Hid (∀ W : World, W = w -> Calls Tryz.prog 79 #[.slice a len cap] W fun e w' => e = .returned (.tuple #[.int .i64 (ff ins 0).1, .int .i64 (ff ins 0).2]) /\ Below W.heap.size W w') := fun W e => e ▸ first_any a len cap ins w (by omega) h
   generalize chk ins = p at *
   generalize ff ins 0 = q at *
   clear h hll
   have hz : ¬ (len : Int) = 0 := by omega
   have hd : decide ((4096 : Int) < (len : Int)) = false := by simp; omega
   go_enter Tryz.func38, Tryz.ntmps38
   go_wp2_with (go_at_call 79; refine (HF.out _ rfl).mono ?_; rintro e w1 ⟨rfl, b1⟩)
   go_ret2
   rw [hc.out]
   exact ⟨rfl, b1⟩
end Go.Proofs.YtmcgcbgblgmmkaaGreatDoor.V
