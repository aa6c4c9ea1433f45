/-
  Instructions as plain numbers and as they lie in memory; which codes there are; what is wrong with an instruction; rows of numbers.
-/
import Derived.Test.YtcckipimfgmmdaaGreatDoorRows
import Derived.WalkKit
import Derived.WalkSpells
import Derived.WalkLawsBesides
import Derived.Laws.AppendOwnNone
import Derived.Laws.MakeOwn
import Derived.Laws.BitsAllLaws
import Derived.Laws.OwnMore
namespace Go.Proofs.YtcckipimfgmmdaaGreatDoor.V

/-- an instruction. -/
structure In where
  c : Int
  t : Int
  f : Int
  k : Int

/-- what an instruction's fields may be. -/
def In.ok (x : In) : Prop := (0 ≤ x.c ∧ x.c ≤ 65535) ∧ (0 ≤ x.t ∧ x.t ≤ 255) ∧ (0 ≤ x.f ∧ x.f ≤ 255) ∧ (0 ≤ x.k ∧ x.k ≤ 4294967295)

/-- no instruction. -/
def In.zero : In := ⟨0, 0, 0, 0⟩

theorem In.ext' {x y : In} (h1 : x.c = y.c) (h2 : x.t = y.t) (h3 : x.f = y.f) (h4 : x.k = y.k) : x = y := by
  cases x; cases y; simp_all

theorem zero_ok : In.zero.ok := by unfold In.ok In.zero; decide

theorem takeIn_snoc (l : List In) (k : Nat) (hk : k < l.length) : l.take (k + 1) = l.take k ++ [l[k]] := by
  rw [List.take_add_one, List.getElem?_eq_getElem hk]
  rfl

end Go.Proofs.YtcckipimfgmmdaaGreatDoor.V

namespace Go.Proofs.YtcckipimfgmmdaaGreatDoor.V
open Go.RowKit

theorem Tryz.info60 : (Tryz.prog.info? 60).map (fun i => (i.zero, i.size, i.bytes)) = some (some (.agg #[.int .u16 0, .int .u8 0, .int .u8 0, .int .u32 0]), 4, 8) := by kernel_rfl

theorem ret_int {k : IntKind} {a b : Int} (h : a = b) : Ending.returned (.int k a) = .returned (.int k b) := by rw [h]
theorem ret_bool {a b : Bool} (h : a = b) : Ending.returned (.bool a) = .returned (.bool b) := by rw [h]

theorem owns_block {w : World} {base sz : Nat} {t : TypeId} {v : Value} {n : Nat} {xs : List Value} (h : w.ownsRow base t sz v n xs) : ∀ k, v.ownBlock = some k → base ≤ k := by
  intro k hk
  rcases h.2 with ⟨rfl, rfl⟩ | ⟨g, cap, cur, rfl, hb, _⟩
  · cases hk
  · cases hk; exact hb

theorem owns_lower {w : World} {B B' sz : Nat} {t : TypeId} {v : Value} {n : Nat} {xs : List Value} (h : w.ownsRow B t sz v n xs) (hB : B' ≤ B) : w.ownsRow B' t sz v n xs := by
  refine ⟨h.1, ?_⟩
  rcases h.2 with hn | ⟨g, cap, cur, hv, hg, r⟩
  · exact .inl hn
  · exact .inr ⟨g, cap, cur, hv, Nat.le_trans hB hg, r⟩

/-- a row stays where no block below a bound is touched, and it lies below. -/
theorem owns_below {w w' : World} {base sz B : Nat} {t : TypeId} {v : Value} {n : Nat} {xs : List Value} (h : w.ownsRow base t sz v n xs) (hb : Below B w w') (hB : w.heap.size ≤ B) : w'.ownsRow base t sz v n xs := by
  refine ⟨h.1, ?_⟩
  rcases h.2 with hn | ⟨g, cap, cur, hv, hg, hh, r⟩
  · exact .inl hn
  · exact .inr ⟨g, cap, cur, hv, hg, by rw [hb.block g (Nat.lt_of_lt_of_le (lt_of_block hh) hB)]; exact hh, r⟩

theorem grow_refl (w : World) (r : Option Nat) : w.grownBy w r := ⟨rfl, rfl, rfl, Nat.le_refl _, fun _ _ _ => rfl⟩

/-- an instruction as a value. -/
def In.val (x : In) : Value := .agg #[.int .u16 x.c, .int .u8 x.t, .int .u8 x.f, .int .u32 x.k]

/-- an instruction as cells. -/
def In.cells (x : In) : List Value := [.int .u16 x.c, .int .u8 x.t, .int .u8 x.f, .int .u32 x.k]

/-- the cells of an instruction. -/
def In.at (x : In) (w : World) (b o : Nat) : Prop :=
  w.cell? ⟨b, o, none⟩ = some (.int .u16 x.c) ∧ w.cell? ⟨b, o + 1, none⟩ = some (.int .u8 x.t) ∧ w.cell? ⟨b, o + 2, none⟩ = some (.int .u8 x.f) ∧ w.cell? ⟨b, o + 3, none⟩ = some (.int .u32 x.k)

/-- the instructions that a slice leads to. -/
def Ins (w : World) (a : Option Addr) (len : Nat) (its : List In) : Prop :=
  its.length = len ∧ (∀ x ∈ its, x.ok) ∧ (0 < len → ∃ b off, a = some ⟨b, off, none⟩ ∧ ∀ (i : Nat) (x : In), its[i]? = some x → x.at w b (off + i * 4))

theorem Ins.below {w w' : World} {a : Option Addr} {len : Nat} {its : List In} (h : Ins w a len its) (hb : Below w.heap.size w w') : Ins w' a len its := by
  refine ⟨h.1, h.2.1, fun h0 => ?_⟩
  obtain ⟨b, off, ha, hc⟩ := h.2.2 h0
  refine ⟨b, off, ha, fun i x hi => ?_⟩
  obtain ⟨h1, h2, h3, h4⟩ := hc i x hi
  have hlt : b < w.heap.size := World.block_lt_of_cell? w _ h1
  refine ⟨?_, ?_, ?_, ?_⟩
  · rw [hb.cell (p := ⟨b, off + i * 4, none⟩) hlt]; exact h1
  · rw [hb.cell (p := ⟨b, off + i * 4 + 1, none⟩) hlt]; exact h2
  · rw [hb.cell (p := ⟨b, off + i * 4 + 2, none⟩) hlt]; exact h3
  · rw [hb.cell (p := ⟨b, off + i * 4 + 3, none⟩) hlt]; exact h4

/-- instructions as cells. -/
def cellsI (l : List In) : List Value := l.flatMap In.cells

theorem cellsI_snoc (l : List In) (x : In) : cellsI (l ++ [x]) = cellsI l ++ x.cells := by simp [cellsI]

theorem cellsI_length (l : List In) : (cellsI l).length = l.length * 4 := by
  induction l with
  | nil => rfl
  | cons x l ih =>
    show (x.cells ++ cellsI l).length = _
    rw [List.length_append, ih, List.length_cons, Nat.add_mul]
    show 4 + _ = _
    omega

theorem cellsI_get (l : List In) : ∀ (i : Nat) (x : In) (c : Nat), l[i]? = some x → c < 4 → (cellsI l)[i * 4 + c]? = x.cells[c]? := by
  induction l with
  | nil => intro i x c h; simp at h
  | cons y l ih =>
    intro i x c h hc
    show (y.cells ++ cellsI l)[i * 4 + c]? = _
    cases i with
    | zero =>
      simp at h
      subst h
      rw [List.getElem?_append_left (by show _ < 4; omega)]
      congr 1
      omega
    | succ i =>
      rw [List.getElem?_append_right (by show 4 ≤ _; omega)]
      rw [List.getElem?_cons_succ] at h
      rw [← ih i x c h hc]
      congr 1
      show (i + 1) * 4 + c - 4 = _
      omega

theorem owns_ins {w : World} {base : Nat} {v : Value} {n : Nat} {l : List In} (h : w.ownsRow base 60 4 v n (cellsI l)) (hl : ∀ x ∈ l, x.ok) : ∃ a cap, v = .slice a n cap ∧ Ins w a n l := by
  have hlen : l.length = n := by have := h.1; rw [cellsI_length] at this; omega
  rcases h.2 with ⟨rfl, rfl⟩ | ⟨g, cap, cur, rfl, hb, hg, hnc, hcm, hcs, htake⟩
  · exact ⟨none, 0, rfl, hlen, hl, fun h => absurd h (by omega)⟩
  · refine ⟨_, cap, rfl, hlen, hl, fun _ => ⟨g, 0, rfl, fun i x hx => ?_⟩⟩
    have key : ∀ c u, c < 4 → x.cells[c]? = some u → w.cell? ⟨g, 0 + i * 4 + c, none⟩ = some u := by
      intro c u hc hu
      have := h.cells (g := g) rfl (i * 4 + c) u (by rw [cellsI_get l i x c hx hc]; exact hu)
      rw [show (⟨g, 0 + i * 4 + c, none⟩ : Addr) = (⟨g, 0, none⟩ : Addr).add (i * 4 + c) from by unfold Addr.add; split <;> simp_all]
      exact this
    exact ⟨key 0 _ (by decide) rfl, key 1 _ (by decide) rfl, key 2 _ (by decide) rfl, key 3 _ (by decide) rfl⟩

theorem new_cells (w : World) (x : In) (o : Obj) (ho : o = .cells #[.int .u16 x.c, .int .u8 x.t, .int .u8 x.f, .int .u32 x.k] 60) : ∀ j u, x.cells[j]? = some u → (w.alloc o).cell? ((⟨w.heap.size, 0, none⟩ : Addr).add j) = some u := by
  subst ho
  intro j u hu
  match j, hu with
  | 0, hu => cases hu; simp [Addr.add]
  | 1, hu => cases hu; simp [Addr.add]
  | 2, hu => cases hu; simp [Addr.add]
  | 3, hu => cases hu; simp [Addr.add]

theorem append_in {w : World} {ops : Array Oper} {rest : List Oper} {o : Oper} {a : Act} {Q : Exit → Act → World → Prop} (hgd : o.guard = none) (s x : Operand)
    (ho : o.op = .call { callee := .builtin .append, args := #[s, x], argTypes := #[30, 30] })
    (base : Nat) (v : Value) (n : Nat) (l : List In) (hs : a.eval s = v) (hown : w.ownsRow base 60 4 v n (cellsI l))
    (it : In) (ad : Addr) (hx : a.eval x = .slice (some ad) 1 1) (hnews : ∀ j u, it.cells[j]? = some u → w.cell? (ad.add j) = some u)
    (hn : n ≤ 1000000) (hbase : base ≤ w.heap.size)
    (h : ∀ v' w', w'.ownsRow base 60 4 v' (n + 1) (cellsI (l ++ [it])) → w.grownBy w' v.ownBlock → wpList Tryz.prog ops Q rest (a.put o.dst v') w') : wpList Tryz.prog ops Q (o :: rest) a w := by
  obtain ⟨i0, hi, hz0, hz1, hz2⟩ := info_parts Tryz.info60
  refine wpList_append_own _ hgd s x 30 ho base 60 i0 _ 4 8 Tryz.underlying30 hi hz0 hz1 hz2 rfl (by decide) v n (cellsI l) hs hown ad 1 1 it.cells hx rfl hnews (by intro u hu; simp [In.cells] at hu; rcases hu with rfl | rfl | rfl | rfl <;> rfl) (by unfold maxLen; omega) (by omega) hbase ?_
  intro v' w' h1 h2 _
  exact h v' w' (by rw [cellsI_snoc]; exact h1) h2

end Go.Proofs.YtcckipimfgmmdaaGreatDoor.V

namespace Go.Proofs.YtcckipimfgmmdaaGreatDoor.V
open Go.RowKit

/-- the codes that a slice leads to. -/
def Us (w : World) (a : Option Addr) (len : Nat) (l : List Int) : Prop :=
  l.length = len ∧ ∃ b off, a = some ⟨b, off, none⟩ ∧ ∀ i, i < len → w.cell? ⟨b, off + i, none⟩ = some (.int .u16 (l.getD i 0))

/-- is a code in a list? -/
def isIn (l : List Int) (c : Int) : Bool := l.contains c

theorem isIn_zero (l : List Int) (c : Int) : isIn (l.take 0) c = false := rfl

theorem isIn_take (l : List Int) (c : Int) (k : Nat) (hk : k < l.length) : isIn (l.take (k + 1)) c = (isIn (l.take k) c || l.getD k 0 == c) := by
  have e1 : l.take (k + 1) = l.take k ++ [l[k]] := by rw [List.take_add_one, List.getElem?_eq_getElem hk]; rfl
  have e2 : l.getD k 0 = l[k] := by simp [hk]
  have e3 : (c == l[k]) = (l[k] == c) := Bool.beq_comm
  rw [e1, e2]
  unfold isIn
  rw [List.contains_eq_any_beq, List.contains_eq_any_beq, List.any_append, List.any_cons, List.any_nil, Bool.or_false, e3]

theorem isIn_get (l : List Int) (c : Int) (k : Nat) (hk : k < l.length) (h : l.getD k 0 = c) : isIn l c = true := by
  have e2 : l.getD k 0 = l[k] := by simp [hk]
  unfold isIn
  rw [← h, e2]
  simp

/-- a place that was found, or none. -/
def Idx (e : Ending) (b : Bool) : Prop := (∃ k : Nat, e = .returned (.int .i64 k) ∧ b = true) ∨ (e = .returned (.int .i64 (-1)) ∧ b = false)

set_option maxHeartbeats 400000 in
theorem index_any (a : Option Addr) (len cap : Nat) (l : List Int) (c : Int) (w : World) (hlen : len ≤ 100) (h : Us w a len l) :
    Calls Tryz.prog 156 #[.slice a len cap, .int .u16 c] w fun e w' => Idx e (isIn l c) ∧ w' = w := by
  obtain ⟨hll, b, off, rfl, hc⟩ := h
  have HC : Hid (∀ i, i < len → w.cell? ⟨b, off + i, none⟩ = some (.int .u16 (l.getD i 0))) := hc
  clear hc
  go_enter Tryz.func156, Tryz.ntmps156
  go_wp2
  go_loop [8] (fun i => ∃ k : Nat, k ≤ len ∧ i = .int .i64 k ∧ isIn (l.take k) c = false) (fun i => len - (intOf i).toNat)
  case atStart => exact ⟨0, Nat.zero_le _, rfl, rfl⟩
  case round =>
    obtain ⟨k, hk, rfl, hno⟩ := hrel
    by_cases hlt : k < len
    · have hck := HC.out k hlt
      have HT : Hid (isIn (l.take (k + 1)) c = (isIn (l.take k) c || l.getD k 0 == c)) := isIn_take l c k (by omega)
      have HM : Hid (l.getD k 0 = c → isIn l c = true) := isIn_get l c k (by omega)
      have HN : Hid (isIn (l.take k) c = false) := hno
      clear hno
      generalize l.getD k 0 = x at *
      by_cases hx : x = c
      · have HF : Hid (isIn l c = true) := HM.out hx
        clear HM HT HN
        subst hx
        go_wp2
        go_ret
        exact ⟨.inl ⟨k, rfl, HF.out⟩, rfl⟩
      · have hx2 : ¬ c = x := fun e => hx e.symm
        go_wp2
        go_round
        case rel => exact ⟨k + 1, by omega, by go_num, by rw [HT.out, HN.out]; simp [hx]⟩
        case measure => simp [intOf]; omega
    · have hno' : Hid (isIn l c = false) := by unfold Hid; rw [List.take_of_length_le (by omega)] at hno; exact hno
      go_wp2
      go_ret
      exact ⟨.inr ⟨rfl, hno'.out⟩, rfl⟩

theorem contains_any (a : Option Addr) (len cap : Nat) (l : List Int) (c : Int) (w : World) (hlen : len ≤ 100) (h : Us w a len l) :
    Calls Tryz.prog 131 #[.slice a len cap, .int .u16 c] w fun e w' => e = .returned (.bool (isIn l c)) ∧ w' = w := by
  go_enter Tryz.func131, Tryz.ntmps131
  go_wp2_with fail
  refine (index_any a len cap l c _ hlen h).mono ?_
  rintro e w2 ⟨⟨k, rfl, hz⟩ | ⟨rfl, hz⟩, rfl⟩
  · go_wp2
    go_ret
    exact ⟨by rw [hz]; rfl, rfl⟩
  · go_wp2
    go_ret
    exact ⟨by rw [hz]; rfl, rfl⟩

theorem byK_any (c : Int) (w : World) :
    Calls Tryz.prog 105 #[.int .u16 c] w fun e w' => e = .returned (.int .u16 (bits .andNot .u16 c 8)) ∧ w' = w := by
  go_enter Tryz.func105, Tryz.ntmps105
  go_wp2
  go_ret
  exact ⟨rfl, rfl⟩

/-- the codes that stand alone. -/
def aloneL : List Int := [32, 0, 1, 96, 97, 2, 3, 132, 5, 6, 22, 7, 135]
/-- the codes that compute. -/
def compL : List Int := [4, 20, 36, 52, 68, 84, 100, 116, 164]
/-- the codes that compare. -/
def cmpL : List Int := [21, 37, 53, 69]
/-- the document's codes, but for those by X. -/
def plainL : List Int := [32, 0, 1, 96, 97, 2, 3, 4, 20, 36, 52, 68, 84, 100, 116, 132, 164, 5, 21, 37, 53, 69, 6, 22, 7, 135]
/-- the document's codes that may be by X. -/
def withL : List Int := [4, 20, 36, 52, 68, 84, 100, 116, 164, 21, 37, 53, 69]

theorem us_alone (w : World) : Us (w.alloc (.cells #[.int .u16 32, .int .u16 0, .int .u16 1, .int .u16 96, .int .u16 97, .int .u16 2, .int .u16 3, .int .u16 132, .int .u16 5, .int .u16 6, .int .u16 22, .int .u16 7, .int .u16 135] 58)) (some ⟨w.heap.size, 0, none⟩) 13 aloneL := by
  refine ⟨rfl, _, _, rfl, fun i hi => ?_⟩
  match i, hi with
  | 0, _ | 1, _ | 2, _ | 3, _ | 4, _ | 5, _ | 6, _ | 7, _ | 8, _ | 9, _ | 10, _ | 11, _ | 12, _ => simp [aloneL]

theorem alone_any (c : Int) (w : World) :
    Calls Tryz.prog 106 #[.int .u16 c] w fun e w' => e = .returned (.bool (isIn aloneL c)) ∧ Below w.heap.size w w' := by
  have e1 : ∀ o, Below w.heap.size w (w.alloc o) := fun o => (Below.refl _ _).alloc (Nat.le_refl _) _
  have hu := us_alone w
  go_enter Tryz.func106, Tryz.ntmps106
  go_wp2_with (go_at_call 131; refine (contains_any _ 13 13 aloneL c _ (by decide) hu).mono ?_; rintro e w2 ⟨rfl, rfl⟩)
  go_ret
  exact ⟨rfl, e1 _⟩

end Go.Proofs.YtcckipimfgmmdaaGreatDoor.V

namespace Go.Proofs.YtcckipimfgmmdaaGreatDoor.V
open Go.RowKit

theorem isIn_cons (a : Int) (l : List Int) (c : Int) : isIn (a :: l) c = (c == a || isIn l c) := rfl
theorem isIn_nil (c : Int) : isIn [] c = false := rfl

set_option maxHeartbeats 400000 in
theorem compares_any (c : Int) (w : World) :
    Calls Tryz.prog 108 #[.int .u16 c] w fun e w' => e = .returned (.bool (isIn cmpL c)) ∧ w' = w := by
  go_enter Tryz.func108, Tryz.ntmps108
  go_wp2
  all_goals (go_ret; exact ⟨ret_bool (by simp [cmpL, isIn_cons, isIn_nil, *]), rfl⟩)

set_option maxHeartbeats 400000 in
theorem computes_any (c : Int) (w : World) :
    Calls Tryz.prog 107 #[.int .u16 c] w fun e w' => e = .returned (.bool (isIn compL c)) ∧ w' = w := by
  go_enter Tryz.func107, Tryz.ntmps107
  go_wp2
  all_goals (go_ret; exact ⟨ret_bool (by simp [compL, isIn_cons, isIn_nil, *]), rfl⟩)

/-- the codes that end a program. -/
def endL : List Int := [6, 22]
/-- the document's codes that jump. -/
def jumpL : List Int := [5, 21, 37, 53, 69, 29, 45, 61, 77]

theorem ends_any (c : Int) (w : World) :
    Calls Tryz.prog 67 #[.int .u16 c] w fun e w' => e = .returned (.bool (isIn endL c)) ∧ w' = w := by
  go_enter Tryz.func67, Tryz.ntmps67
  go_wp2
  all_goals (go_ret; exact ⟨ret_bool (by simp [endL, isIn_cons, isIn_nil, *]), rfl⟩)

/-- the code by K. -/
def kOf (c : Int) : Int := bits .andNot .u16 c 8

/-- does a code jump? -/
def jumpsB (c : Int) : Bool := c == 5 || isIn cmpL (kOf c)
/-- is a code an instruction's? -/
def knownB (c : Int) : Bool := isIn aloneL c || isIn compL (kOf c) || isIn cmpL (kOf c)
/-- is a code an instruction's, by the document? -/
def refKnownB (c : Int) : Bool := isIn plainL c || (decide (8 ≤ c) && isIn withL (c - 8))

theorem jumps_any (c : Int) (w : World) :
    Calls Tryz.prog 109 #[.int .u16 c] w fun e w' => e = .returned (.bool (jumpsB c)) ∧ w' = w := by
  go_enter Tryz.func109, Tryz.ntmps109
  go_wp2_with (first | (go_at_call 105; refine (byK_any c _).mono ?_; rintro e w2 ⟨rfl, rfl⟩) | (go_at_call 108; refine (compares_any _ _).mono ?_; rintro e w2 ⟨rfl, rfl⟩))
  all_goals (go_ret; exact ⟨ret_bool (by simp [jumpsB, kOf, *]), rfl⟩)

theorem known_any (c : Int) (w : World) :
    Calls Tryz.prog 63 #[.int .u16 c] w fun e w' => e = .returned (.bool (knownB c)) ∧ Below w.heap.size w w' := by
  go_enter Tryz.func63, Tryz.ntmps63
  go_wp2_with (first | (go_at_call 105; refine (byK_any c _).mono ?_; rintro e w2 ⟨rfl, rfl⟩) | (go_at_call 106; refine (alone_any c _).mono ?_; rintro e w2 ⟨rfl, hb⟩) | (go_at_call 107; refine (computes_any _ _).mono ?_; rintro e w3 ⟨rfl, rfl⟩) | (go_at_call 108; refine (compares_any _ _).mono ?_; rintro e w4 ⟨rfl, rfl⟩))
  all_goals (go_ret; exact ⟨ret_bool (by simp [knownB, kOf, *]), by assumption⟩)

end Go.Proofs.YtcckipimfgmmdaaGreatDoor.V

namespace Go.Proofs.YtcckipimfgmmdaaGreatDoor.V
open Go.RowKit

theorem us_plain (w : World) : Us (w.alloc (.cells #[.int .u16 32, .int .u16 0, .int .u16 1, .int .u16 96, .int .u16 97, .int .u16 2, .int .u16 3, .int .u16 4, .int .u16 20, .int .u16 36, .int .u16 52, .int .u16 68, .int .u16 84, .int .u16 100, .int .u16 116, .int .u16 132, .int .u16 164, .int .u16 5, .int .u16 21, .int .u16 37, .int .u16 53, .int .u16 69, .int .u16 6, .int .u16 22, .int .u16 7, .int .u16 135] 58)) (some ⟨w.heap.size, 0, none⟩) 26 plainL := by
  refine ⟨rfl, _, _, rfl, fun i hi => ?_⟩
  have h13 : i < 13 ∨ (13 ≤ i ∧ i - 13 < 13) := by omega
  rcases h13 with h | ⟨h, h2⟩
  · match i, h with
    | 0, _ | 1, _ | 2, _ | 3, _ | 4, _ | 5, _ | 6, _ | 7, _ | 8, _ | 9, _ | 10, _ | 11, _ | 12, _ => simp [plainL]
  · obtain ⟨j, rfl⟩ : ∃ j, i = j + 13 := ⟨i - 13, by omega⟩
    have hj : j < 13 := by omega
    clear h h2 hi
    match j, hj with
    | 0, _ | 1, _ | 2, _ | 3, _ | 4, _ | 5, _ | 6, _ | 7, _ | 8, _ | 9, _ | 10, _ | 11, _ | 12, _ => simp [plainL]

theorem us_with (w : World) : Us (w.alloc (.cells #[.int .u16 4, .int .u16 20, .int .u16 36, .int .u16 52, .int .u16 68, .int .u16 84, .int .u16 100, .int .u16 116, .int .u16 164, .int .u16 21, .int .u16 37, .int .u16 53, .int .u16 69] 58)) (some ⟨w.heap.size, 0, none⟩) 13 withL := by
  refine ⟨rfl, _, _, rfl, fun i hi => ?_⟩
  match i, hi with
  | 0, _ | 1, _ | 2, _ | 3, _ | 4, _ | 5, _ | 6, _ | 7, _ | 8, _ | 9, _ | 10, _ | 11, _ | 12, _ => simp [withL]

/-- the code by K, of a code that is a Nat. -/
def kNat (n : Nat) : Nat := n &&& 65527

theorem kOf_nat (n : Nat) (h : n < 65536) : kOf (n : Int) = (kNat n : Int) := u16_andNot_nat n 8 h (by decide)

theorem kNat_big (n : Nat) (h : n < 65536) (h2 : 256 ≤ n) : 256 ≤ kNat n := by
  have e : kNat n >>> 8 = n / 256 := by
    unfold kNat
    rw [Nat.shiftRight_and_distrib, show 65527 >>> 8 = 2 ^ 8 - 1 from rfl, Nat.and_two_pow_sub_one_eq_mod, Nat.shiftRight_eq_div_pow]
    exact Nat.mod_eq_of_lt (by omega)
  rw [Nat.shiftRight_eq_div_pow] at e
  have e2 : kNat n / 256 = n / 256 := e
  omega

theorem isIn_big (l : List Int) (c : Int) (h : ∀ z ∈ l, z < c) : isIn l c = false := by
  induction l with
  | nil => rfl
  | cons a l ih =>
    have ha := h a (by simp)
    rw [isIn_cons, ih (fun z hz => h z (by simp [hz]))]
    simp
    omega

/-- what is to be known of a code: the two ways to know it, to jump and to end agree; what jumps or ends is known, and none does both. -/
def fine (c k : Int) : Bool :=
  (isIn aloneL c || isIn compL k || isIn cmpL k) == (isIn plainL c || (decide (8 ≤ c) && isIn withL (c - 8))) &&
  (c == 5 || isIn cmpL k) == isIn jumpL c &&
  !((c == 5 || isIn cmpL k) && isIn endL c) && (!((c == 5 || isIn cmpL k) || isIn endL c) || (isIn aloneL c || isIn compL k || isIn cmpL k))

theorem fine_small : ∀ n : Fin 256, fine (n.val : Int) (kNat n.val : Int) = true := by decide +kernel

theorem unknown_big (n : Nat) (h : n < 65536) (h2 : 256 ≤ n) : isIn aloneL (n : Int) = false ∧ isIn compL (kNat n : Int) = false ∧ isIn cmpL (kNat n : Int) = false := by
  have hk := kNat_big n h h2
  refine ⟨isIn_big _ _ ?_, isIn_big _ _ ?_, isIn_big _ _ ?_⟩
  · intro z hz
    have : z < 256 := by revert z; decide
    omega
  · intro z hz
    have : z < 256 := by revert z; decide
    omega
  · intro z hz
    have : z < 256 := by revert z; decide
    omega

theorem fine_all (n : Nat) (h : n < 65536) : fine (n : Int) (kOf (n : Int)) = true := by
  rw [kOf_nat n h]
  by_cases h2 : n < 256
  · exact fine_small ⟨n, h2⟩
  · obtain ⟨e1, e2, e3⟩ := unknown_big n h (by omega)
    have e4 : isIn plainL (n : Int) = false := isIn_big _ _ (fun z hz => by have : z < 200 := by { revert z; decide }; omega)
    have e5 : isIn withL ((n : Int) - 8) = false := isIn_big _ _ (fun z hz => by have : z < 200 := by { revert z; decide }; omega)
    have e6 : isIn jumpL (n : Int) = false := isIn_big _ _ (fun z hz => by have : z < 200 := by { revert z; decide }; omega)
    have e7 : isIn endL (n : Int) = false := isIn_big _ _ (fun z hz => by have : z < 200 := by { revert z; decide }; omega)
    have e8 : ((n : Int) == 5) = false := by simp; omega
    unfold fine
    rw [e1, e2, e3, e4, e5, e6, e7, e8]
    simp

theorem known_same (c : Int) (h0 : 0 ≤ c) (h1 : c ≤ 65535) : knownB c = refKnownB c ∧ jumpsB c = isIn jumpL c ∧ (jumpsB c && isIn endL c) = false ∧ ((jumpsB c || isIn endL c) = true → knownB c = true) := by
  obtain ⟨n, rfl⟩ := Int.eq_ofNat_of_zero_le h0
  have h := fine_all n (by omega)
  unfold fine at h
  simp only [Bool.and_eq_true, beq_iff_eq] at h
  obtain ⟨⟨⟨e1, e2⟩, e3⟩, e4⟩ := h
  rw [Bool.not_eq_true'] at e3
  refine ⟨e1, e2, e3, fun hx => ?_⟩
  show (isIn aloneL (n : Int) || isIn compL (kOf n) || isIn cmpL (kOf n)) = true
  have hx' : ((n : Int) == 5 || isIn cmpL (kOf n) || isIn endL (n : Int)) = true := hx
  rw [hx', Bool.not_true, Bool.false_or] at e4
  exact e4

theorem known_high (c : Int) (h0 : 256 ≤ c) (h1 : c ≤ 65535) : knownB c = false := by
  obtain ⟨n, rfl⟩ := Int.eq_ofNat_of_zero_le (show 0 ≤ c by omega)
  obtain ⟨e1, e2, e3⟩ := unknown_big n (by omega) (by omega)
  unfold knownB
  rw [kOf_nat n (by omega), e1, e2, e3]
  rfl

end Go.Proofs.YtcckipimfgmmdaaGreatDoor.V

namespace Go.Proofs.YtcckipimfgmmdaaGreatDoor.V

/-- the codes that take or fill a cell. -/
def cellL : List Int := [96, 97, 2, 3]
/-- the codes that shift by K. -/
def shiftL : List Int := [100, 116]

/-- how many instructions may be left out behind one. -/
def skipsL (x : In) : List Int :=
  if isIn endL x.c = true then [] else if x.c = 5 then [x.k] else if jumpsB x.c = false then [0] else if x.t = x.f then [x.t] else if x.t < x.f then [x.t, x.f] else [x.f, x.t]

/-- is one left of so many? -/
def insB (s : Int) (n : Nat) : Bool := decide (s < n)

/-- does it load what is not there? -/
def loadsB (c k : Int) : Bool := (c == 32 && (!decide (k % 4 = 0) || decide (64 ≤ k))) || (!(c == 32) && (isIn cellL c && decide (16 ≤ k)))
/-- does it reckon what can't be? -/
def reckB (c k : Int) : Bool := (c == 52 && k == 0) || (!(c == 52) && (isIn shiftL c && decide (31 < k)))
/-- does it jump out? -/
def outB (x : In) (n : Nat) : Bool := jumpsB x.c && (skipsL x).any (fun s => !insB s n)

/-- what is wrong with an instruction that has so many behind it; 0: nothing. -/
def fault (x : In) (n : Nat) : Int :=
  if knownB x.c = false then 11 else if loadsB x.c x.k = true then 12 else if reckB x.c x.k = true then 13 else if outB x n = true then 14 else if n = 0 ∧ isIn endL x.c = false then 15 else 0

/-- the first fault of a program, and its place. -/
def ff : List In → Int → Int × Int
  | [], _ => (0, -1)
  | x :: r, p => if fault x r.length = 0 then ff r (p + 1) else (fault x r.length, p)

/-- what Check tells. -/
def chk (l : List In) : Int × Int := if l.length = 0 then (10, 0) else if 4096 < l.length then (4, 4096) else ff l 0

theorem fault_range (x : In) (n : Nat) : 0 ≤ fault x n ∧ fault x n ≤ 15 ∧ fault x n ≠ 10 := by
  unfold fault
  repeat' split
  all_goals decide

theorem ff_drop_succ (l : List In) (k : Nat) (hk : k < l.length) (p : Int) : ff (l.drop k) p = if fault l[k] (l.length - 1 - k) = 0 then ff (l.drop (k + 1)) (p + 1) else (fault l[k] (l.length - 1 - k), p) := by
  rw [List.drop_eq_getElem_cons hk]
  show (if fault l[k] (l.drop (k + 1)).length = 0 then ff (l.drop (k + 1)) (p + 1) else (fault l[k] (l.drop (k + 1)).length, p)) = _
  rw [show (l.drop (k + 1)).length = l.length - 1 - k from by rw [List.length_drop]; omega]

theorem ff_bd (l : List In) (p : Int) : ((ff l p).1 = 0 ∧ (ff l p).2 = -1) ∨ (0 < (ff l p).1 ∧ (ff l p).1 ≤ 15 ∧ (ff l p).1 ≠ 10 ∧ p ≤ (ff l p).2 ∧ (ff l p).2 < p + l.length) := by
  induction l generalizing p with
  | nil => exact .inl ⟨rfl, rfl⟩
  | cons x r ih =>
    have hf := fault_range x r.length
    unfold ff
    by_cases h : fault x r.length = 0
    · rw [if_pos h]
      rcases ih (p + 1) with h1 | h1
      · exact .inl h1
      · right
        rw [List.length_cons]
        omega
    · rw [if_neg h, List.length_cons]
      right
      show 0 < fault x r.length ∧ fault x r.length ≤ 15 ∧ fault x r.length ≠ 10 ∧ p ≤ p ∧ p < p + _
      omega

theorem ff_shift (l : List In) (p q : Int) : ff l (p + q) = if (ff l p).1 = 0 then (0, -1) else ((ff l p).1, (ff l p).2 + q) := by
  induction l generalizing p with
  | nil => rfl
  | cons x r ih =>
    unfold ff
    by_cases h : fault x r.length = 0
    · rw [if_pos h, if_pos h, show p + q + 1 = p + 1 + q from by omega, ih (p + 1)]
    · rw [if_neg h, if_neg h]
      show _ = if fault x r.length = 0 then _ else _
      rw [if_neg h]

theorem ff_drop (l : List In) (p : Int) (k : Nat) (q : Int) (h : (ff l p).1 = 0) : ff (l.drop k) q = (0, -1) := by
  induction l generalizing p k with
  | nil => rw [List.drop_nil]; rfl
  | cons x r ih =>
    unfold ff at h
    by_cases hx : fault x r.length = 0
    · rw [if_pos hx] at h
      cases k with
      | zero =>
        show (if fault x r.length = 0 then ff r (q + 1) else _) = _
        rw [if_pos hx]
        have := ff_shift r (p + 1) (q + 1 - (p + 1))
        rw [show p + 1 + (q + 1 - (p + 1)) = q + 1 from by omega, if_pos h] at this
        exact this
      | succ k => exact ih (p + 1) k h
    · rw [if_neg hx] at h
      exact absurd h hx

theorem ff_set (l : List In) (p : Int) (i : Nat) (x : In) (hi : i < l.length) (hx : fault x (l.length - 1 - i) ≠ 0) :
    ff (l.set i x) p = if (ff l p).1 ≠ 0 ∧ (ff l p).2 < p + i then ff l p else (fault x (l.length - 1 - i), p + i) := by
  induction l generalizing p i with
  | nil => cases hi
  | cons y r ih =>
    cases i with
    | zero =>
      have hb := ff_bd (y :: r) p
      rw [if_neg (by omega)]
      show (if fault x r.length = 0 then _ else (fault x r.length, p)) = _
      rw [List.length_cons, show r.length + 1 - 1 - 0 = r.length from by omega] at *
      rw [if_neg hx]
      show _ = (_, p + ((0 : Nat) : Int))
      rw [show p + ((0 : Nat) : Int) = p from by omega]
    | succ i =>
      rw [List.length_cons] at hi hx
      have hn : (y :: r).length - 1 - (i + 1) = r.length - 1 - i := by rw [List.length_cons]; omega
      rw [show r.length + 1 - 1 - (i + 1) = r.length - 1 - i from by omega] at hx
      show (if fault y (r.set i x).length = 0 then ff (r.set i x) (p + 1) else (fault y (r.set i x).length, p)) = _
      rw [hn, List.length_set, ih (p + 1) i (by omega) hx]
      show _ = if (if fault y r.length = 0 then ff r (p + 1) else (fault y r.length, p)).1 ≠ 0 ∧ (if fault y r.length = 0 then ff r (p + 1) else (fault y r.length, p)).2 < p + ((i + 1 : Nat) : Int) then (if fault y r.length = 0 then ff r (p + 1) else (fault y r.length, p)) else (_, p + ((i + 1 : Nat) : Int))
      have e : p + ((i + 1 : Nat) : Int) = p + 1 + (i : Int) := by omega
      rw [e]
      by_cases hy : fault y r.length = 0
      · rw [if_pos hy, if_pos hy]
      · rw [if_neg hy, if_neg hy, if_pos]
        exact ⟨hy, by show p < _; omega⟩

theorem fault_imm (k : Int) (n : Nat) : fault ⟨0, 0, 0, k⟩ n = if n = 0 then 15 else 0 := by
  have e1 : knownB 0 = true := rfl
  have e2 : loadsB 0 k = false := rfl
  have e3 : reckB 0 k = false := rfl
  have ej : jumpsB 0 = false := by rw [show (0 : Int) = ((0 : Nat) : Int) from rfl]; unfold jumpsB; rw [kOf_nat 0 (by decide)]; decide +kernel
  have e4 : outB ⟨0, 0, 0, k⟩ n = false := by unfold outB; rw [ej]; rfl
  have e5 : isIn endL 0 = false := rfl
  unfold fault
  rw [e1, e2, e3, e4, e5]
  by_cases h : n = 0
  · simp [h]
  · simp [h]

theorem fault_bad (n : Nat) : fault ⟨255, 0, 0, 0⟩ n = 11 := by
  have e1 : knownB 255 = false := by rw [show (255 : Int) = ((255 : Nat) : Int) from rfl]; unfold knownB; rw [kOf_nat 255 (by decide)]; decide +kernel
  unfold fault
  rw [e1]
  rfl

theorem fault_far (n : Nat) (hn : n ≤ 4096) : fault ⟨5, 0, 0, 4294967295⟩ n = 14 := by
  have e1 : knownB 5 = true := rfl
  have e2 : loadsB 5 4294967295 = false := rfl
  have e3 : reckB 5 4294967295 = false := rfl
  have e4 : outB ⟨5, 0, 0, 4294967295⟩ n = true := by
    show ([(4294967295 : Int)].any fun s => !insB s n) = true
    rw [List.any_cons, List.any_nil, Bool.or_false]
    unfold insB
    simp
    omega
  unfold fault
  rw [e1, e2, e3, e4]
  rfl

end Go.Proofs.YtcckipimfgmmdaaGreatDoor.V

namespace Go.Proofs.YtcckipimfgmmdaaGreatDoor.V
open Go.RowKit

theorem Tryz.info3 : (Tryz.prog.info? 3).map (fun i => (i.zero, i.size, i.bytes)) = some (some (.int .i64 0), 1, 8) := by kernel_rfl

theorem size_alloc' (w : World) (o : Obj) : (w.alloc o).heap.size = w.heap.size + 1 := by simp

/-- the numbers that a slice leads to. -/
def Ns (k : IntKind) (w : World) (a : Option Addr) (len : Nat) (l : List Int) : Prop :=
  l.length = len ∧ (0 < len → ∃ b off, a = some ⟨b, off, none⟩ ∧ ∀ i, i < len → w.cell? ⟨b, off + i, none⟩ = some (.int k (l.getD i 0)))

theorem Ns.below {k : IntKind} {w w' : World} {a : Option Addr} {len : Nat} {l : List Int} (h : Ns k w a len l) (hb : Below w.heap.size w w') : Ns k w' a len l := by
  refine ⟨h.1, fun h0 => ?_⟩
  obtain ⟨b, off, ha, hc⟩ := h.2 h0
  refine ⟨b, off, ha, fun i hi => ?_⟩
  rw [hb.cell (p := ⟨b, off + i, none⟩) (World.block_lt_of_cell? w _ (hc i hi))]
  exact hc i hi

/-- numbers as cells. -/
def cellsN (l : List Int) : List Value := l.map (Value.int .i64)

theorem cellsN_app (l m : List Int) : cellsN (l ++ m) = cellsN l ++ cellsN m := by simp [cellsN]

theorem owns_ns {w : World} {base : Nat} {v : Value} {n : Nat} {l : List Int} (h : w.ownsRow base 3 1 v n (cellsN l)) : ∃ a cap, v = .slice a n cap ∧ Ns .i64 w a n l := by
  have hlen : l.length = n := by have := h.1; simpa [cellsN] using this
  rcases h.2 with ⟨rfl, rfl⟩ | ⟨g, cap, cur, rfl, hb, hg, hnc, hcm, hcs, htake⟩
  · exact ⟨none, 0, rfl, hlen, fun h => absurd h (by omega)⟩
  · refine ⟨_, cap, rfl, hlen, fun _ => ⟨g, 0, rfl, fun i hi => ?_⟩⟩
    have := h.cells (g := g) rfl i (.int .i64 (l.getD i 0)) (by simp [cellsN, List.getElem?_eq_getElem (show i < l.length from by omega)])
    rw [show (⟨g, 0 + i, none⟩ : Addr) = (⟨g, 0, none⟩ : Addr).add i from by unfold Addr.add; split <;> simp_all]
    exact this

theorem append_int {w : World} {ops : Array Oper} {rest : List Oper} {o : Oper} {a : Act} {Q : Exit → Act → World → Prop} (hgd : o.guard = none) (s x : Operand)
    (ho : o.op = .call { callee := .builtin .append, args := #[s, x], argTypes := #[31, 31] })
    (base : Nat) (v : Value) (n : Nat) (l : List Int) (hs : a.eval s = v) (hown : w.ownsRow base 3 1 v n (cellsN l))
    (z : Int) (ad : Addr) (hx : a.eval x = .slice (some ad) 1 1) (hnew : w.cell? ad = some (.int .i64 z))
    (hn : n ≤ 1000000) (hbase : base ≤ w.heap.size)
    (h : ∀ v' w', w'.ownsRow base 3 1 v' (n + 1) (cellsN (l ++ [z])) → w.grownBy w' v.ownBlock → wpList Tryz.prog ops Q rest (a.put o.dst v') w') : wpList Tryz.prog ops Q (o :: rest) a w := by
  obtain ⟨i0, hi, hz0, hz1, hz2⟩ := info_parts Tryz.info3
  refine wpList_append_own _ hgd s x 31 ho base 3 i0 _ 1 8 Tryz.underlying31 hi hz0 hz1 hz2 rfl (by decide) v n (cellsN l) hs hown ad 1 1 (cellsN [z]) hx rfl ?_ (by intro u hu; simp [cellsN] at hu; subst hu; rfl) (by unfold maxLen; omega) (by omega) hbase ?_
  · intro j u hu
    match j, hu with
    | 0, hu => cases hu; exact hnew
  · intro v' w' h1 h2 _
    exact h v' w' (by rw [cellsN_app]; exact h1) h2

theorem cellsI_app (l m : List In) : cellsI (l ++ m) = cellsI l ++ cellsI m := by simp [cellsI]

theorem cellsI_kind (l : List In) : ∀ u ∈ cellsI l, u.oneCell' = true := by
  intro u hu
  simp only [cellsI, List.mem_flatMap] at hu
  obtain ⟨x, _, hu⟩ := hu
  simp [In.cells] at hu
  rcases hu with rfl | rfl | rfl | rfl <;> rfl

theorem Ins.news {w : World} {x : Addr} {len : Nat} {l : List In} (h : Ins w (some x) len l) : ∀ j u, (cellsI l)[j]? = some u → w.cell? (x.add j) = some u := by
  intro j u hu
  have hj : j < l.length * 4 := by
    have := (List.getElem?_eq_some_iff.1 hu).1
    rw [cellsI_length] at this
    exact this
  obtain ⟨b, off, e, hc⟩ := h.2.2 (by have := h.1; omega)
  cases e
  have hd : j = j / 4 * 4 + j % 4 := by omega
  have hlt : j / 4 < l.length := by omega
  have hg := cellsI_get l (j / 4) l[j / 4] (j % 4) (List.getElem?_eq_getElem hlt) (by omega)
  rw [← hd, hu] at hg
  obtain ⟨c0, c1, c2, c3⟩ := hc (j / 4) l[j / 4] (List.getElem?_eq_getElem hlt)
  rw [Addr.add_lit]
  have hm : j % 4 < 4 := by omega
  rw [show off + j = off + j / 4 * 4 + j % 4 from by omega]
  generalize j % 4 = c at *
  match c, hm with
  | 0, _ => rw [Nat.add_zero, c0]; exact hg.symm
  | 1, _ => rw [c1]; exact hg.symm
  | 2, _ => rw [c2]; exact hg.symm
  | 3, _ => rw [c3]; exact hg.symm

theorem Ins.nil {w : World} {len : Nat} {l : List In} (h : Ins w none len l) : len = 0 ∧ l = [] := by
  have h0 : len = 0 := by
    rcases Nat.eq_zero_or_pos len with e | e
    · exact e
    · obtain ⟨_, _, e, _⟩ := h.2.2 e
      cases e
  exact ⟨h0, List.eq_nil_of_length_eq_zero (by rw [h.1, h0])⟩

theorem append_ins {w : World} {ops : Array Oper} {rest : List Oper} {o : Oper} {a : Act} {Q : Exit → Act → World → Prop} (hgd : o.guard = none) (s x : Operand)
    (ho : o.op = .call { callee := .builtin .append, args := #[s, x], argTypes := #[30, 30] })
    (base : Nat) (v : Value) (n : Nat) (l : List In) (hs : a.eval s = v) (hown : w.ownsRow base 60 4 v n (cellsI l))
    (ao : Option Addr) (m c : Nat) (k : List In) (hx : a.eval x = .slice ao m c) (hao : ao = none → c = 0) (hb : Ins w ao m k)
    (hn : n + m ≤ 100000) (hbase : base ≤ w.heap.size)
    (h : ∀ v' w', w'.ownsRow base 60 4 v' (n + m) (cellsI (l ++ k)) → w.grownBy w' v.ownBlock → wpList Tryz.prog ops Q rest (a.put o.dst v') w') : wpList Tryz.prog ops Q (o :: rest) a w := by
  obtain ⟨i0, hi, hz0, hz1, hz2⟩ := info_parts Tryz.info60
  cases ao with
  | none =>
    obtain ⟨rfl, rfl⟩ := hb.nil
    obtain rfl := hao rfl
    refine wpList_append_own_none hgd s x 30 ho base 60 i0 4 Tryz.underlying30 hi v n (cellsI l) hs hown hx ?_
    exact h v w (by simpa using hown) (grow_refl _ _)
  | some ad =>
    refine wpList_append_own _ hgd s x 30 ho base 60 i0 _ 4 8 Tryz.underlying30 hi hz0 hz1 hz2 rfl (by decide) v n (cellsI l) hs hown ad m c (cellsI k) hx (by rw [cellsI_length, hb.1]) hb.news (cellsI_kind k) (by unfold maxLen; omega) (by omega) hbase ?_
    intro v' w' h1 h2 _
    exact h v' w' (by rw [cellsI_app]; exact h1) h2

end Go.Proofs.YtcckipimfgmmdaaGreatDoor.V

namespace Go.Proofs.YtcckipimfgmmdaaGreatDoor.V
open Go.RowKit

theorem within_any (s : Int) (n : Nat) (w : World) (h0 : 0 ≤ s) (h1 : s ≤ 4294967295) (hn : n ≤ 1000000) :
    Calls Tryz.prog 111 #[.int .u32 s, .int .i64 n] w fun e w' => e = .returned (.bool (insB s n)) ∧ w' = w := by
  have e1 : IntKind.u64.wrap s = s := by rw [IntKind.wrap_u64]; omega
  have e2 : IntKind.u64.wrap (n : Int) = n := by rw [IntKind.wrap_u64]; omega
  go_enter Tryz.func111, Tryz.ntmps111
  go_wp2
  go_ret
  exact ⟨ret_bool (by unfold insB; rfl), rfl⟩

set_option maxHeartbeats 400000 in
theorem loads_any (x : In) (w : World) (hx : x.ok) :
    Calls Tryz.prog 64 #[x.val] w fun e w' => e = .returned (.bool (loadsB x.c x.k)) ∧ Below w.heap.size w w' := by
  obtain ⟨c, t, f, k⟩ := x
  obtain ⟨-, -, -, hk⟩ := hx
  have e1 : ∀ o, Below w.heap.size w (w.alloc o) := fun o => (Below.refl _ _).alloc (Nat.le_refl _) _
  unfold In.val
  dsimp only at *
  go_enter Tryz.func64, Tryz.ntmps64
  go_wp2
  all_goals (go_ret; exact ⟨ret_bool (by simp [loadsB, cellL, isIn_cons, isIn_nil, *]), e1 _⟩)

set_option maxHeartbeats 400000 in
theorem reck_any (x : In) (w : World) (hx : x.ok) :
    Calls Tryz.prog 65 #[x.val] w fun e w' => e = .returned (.bool (reckB x.c x.k)) ∧ Below w.heap.size w w' := by
  obtain ⟨c, t, f, k⟩ := x
  obtain ⟨-, -, -, hk⟩ := hx
  have e1 : ∀ o, Below w.heap.size w (w.alloc o) := fun o => (Below.refl _ _).alloc (Nat.le_refl _) _
  unfold In.val
  dsimp only at *
  go_enter Tryz.func65, Tryz.ntmps65
  go_wp2
  all_goals (go_ret; exact ⟨ret_bool (by simp [reckB, shiftL, isIn_cons, isIn_nil, *]), e1 _⟩)

end Go.Proofs.YtcckipimfgmmdaaGreatDoor.V

