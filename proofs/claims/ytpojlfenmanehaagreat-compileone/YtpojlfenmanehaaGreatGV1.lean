/-
  Programs that may be run.
-/
import Derived.Test.YtpojlfenmanehaaGreatRows
import Derived.WalkKit
import Derived.WalkSpells
import Derived.WalkLawsBesides
import Derived.Laws.AppendOwnNone
import Derived.Laws.MakeOwn
import Derived.Laws.BitsAllLaws
import Derived.Laws.OwnMore
namespace Go.Proofs.YtpojlfenmanehaaGreat.V

/-- an instruction. -/
structure In where
  c : Int
  t : Int
  f : Int
  k : Int

/-- what an instruction's fields may be. -/
def In.ok (x : In) : Prop := (0 ≤ x.c ∧ x.c ≤ 65535) ∧ (0 ≤ x.t ∧ x.t ≤ 255) ∧ (0 ≤ x.f ∧ x.f ≤ 255) ∧ (0 ≤ x.k ∧ x.k ≤ 4294967295)

/-- no instruction. -/
def In.zero : In := ⟨0, 0, 0, 0⟩

theorem In.ext' {x y : In} (h1 : x.c = y.c) (h2 : x.t = y.t) (h3 : x.f = y.f) (h4 : x.k = y.k) : x = y := by
  cases x; cases y; simp_all

theorem zero_ok : In.zero.ok := by unfold In.ok In.zero; decide

theorem takeIn_snoc (l : List In) (k : Nat) (hk : k < l.length) : l.take (k + 1) = l.take k ++ [l[k]] := by
  rw [List.take_add_one, List.getElem?_eq_getElem hk]
  rfl

end Go.Proofs.YtpojlfenmanehaaGreat.V

namespace Go.Proofs.YtpojlfenmanehaaGreat.V
open Go.RowKit

theorem Tryz.info78 : (Tryz.prog.info? 78).map (fun i => (i.zero, i.size, i.bytes)) = some (some (.agg #[.int .u16 0, .int .u8 0, .int .u8 0, .int .u32 0]), 4, 8) := by kernel_rfl

theorem ret_int {k : IntKind} {a b : Int} (h : a = b) : Ending.returned (.int k a) = .returned (.int k b) := by rw [h]
theorem ret_bool {a b : Bool} (h : a = b) : Ending.returned (.bool a) = .returned (.bool b) := by rw [h]

theorem owns_block {w : World} {base sz : Nat} {t : TypeId} {v : Value} {n : Nat} {xs : List Value} (h : w.ownsRow base t sz v n xs) : ∀ k, v.ownBlock = some k → base ≤ k := by
  intro k hk
  rcases h.2 with ⟨rfl, rfl⟩ | ⟨g, cap, cur, rfl, hb, _⟩
  · cases hk
  · cases hk; exact hb

theorem owns_lower {w : World} {B B' sz : Nat} {t : TypeId} {v : Value} {n : Nat} {xs : List Value} (h : w.ownsRow B t sz v n xs) (hB : B' ≤ B) : w.ownsRow B' t sz v n xs := by
  refine ⟨h.1, ?_⟩
  rcases h.2 with hn | ⟨g, cap, cur, hv, hg, r⟩
  · exact .inl hn
  · exact .inr ⟨g, cap, cur, hv, Nat.le_trans hB hg, r⟩

/-- a row stays where no block below a bound is touched, and it lies below. -/
theorem owns_below {w w' : World} {base sz B : Nat} {t : TypeId} {v : Value} {n : Nat} {xs : List Value} (h : w.ownsRow base t sz v n xs) (hb : Below B w w') (hB : w.heap.size ≤ B) : w'.ownsRow base t sz v n xs := by
  refine ⟨h.1, ?_⟩
  rcases h.2 with hn | ⟨g, cap, cur, hv, hg, hh, r⟩
  · exact .inl hn
  · exact .inr ⟨g, cap, cur, hv, hg, by rw [hb.block g (Nat.lt_of_lt_of_le (lt_of_block hh) hB)]; exact hh, r⟩

theorem grow_refl (w : World) (r : Option Nat) : w.grownBy w r := ⟨rfl, rfl, rfl, Nat.le_refl _, fun _ _ _ => rfl⟩

/-- an instruction as a value. -/
def In.val (x : In) : Value := .agg #[.int .u16 x.c, .int .u8 x.t, .int .u8 x.f, .int .u32 x.k]

/-- an instruction as cells. -/
def In.cells (x : In) : List Value := [.int .u16 x.c, .int .u8 x.t, .int .u8 x.f, .int .u32 x.k]

/-- the cells of an instruction. -/
def In.at (x : In) (w : World) (b o : Nat) : Prop :=
  w.cell? ⟨b, o, none⟩ = some (.int .u16 x.c) ∧ w.cell? ⟨b, o + 1, none⟩ = some (.int .u8 x.t) ∧ w.cell? ⟨b, o + 2, none⟩ = some (.int .u8 x.f) ∧ w.cell? ⟨b, o + 3, none⟩ = some (.int .u32 x.k)

/-- the instructions that a slice leads to. -/
def Ins (w : World) (a : Option Addr) (len : Nat) (its : List In) : Prop :=
  its.length = len ∧ (∀ x ∈ its, x.ok) ∧ (0 < len → ∃ b off, a = some ⟨b, off, none⟩ ∧ ∀ (i : Nat) (x : In), its[i]? = some x → x.at w b (off + i * 4))

theorem Ins.below {w w' : World} {a : Option Addr} {len : Nat} {its : List In} (h : Ins w a len its) (hb : Below w.heap.size w w') : Ins w' a len its := by
  refine ⟨h.1, h.2.1, fun h0 => ?_⟩
  obtain ⟨b, off, ha, hc⟩ := h.2.2 h0
  refine ⟨b, off, ha, fun i x hi => ?_⟩
  obtain ⟨h1, h2, h3, h4⟩ := hc i x hi
  have hlt : b < w.heap.size := World.block_lt_of_cell? w _ h1
  refine ⟨?_, ?_, ?_, ?_⟩
  · rw [hb.cell (p := ⟨b, off + i * 4, none⟩) hlt]; exact h1
  · rw [hb.cell (p := ⟨b, off + i * 4 + 1, none⟩) hlt]; exact h2
  · rw [hb.cell (p := ⟨b, off + i * 4 + 2, none⟩) hlt]; exact h3
  · rw [hb.cell (p := ⟨b, off + i * 4 + 3, none⟩) hlt]; exact h4

/-- instructions as cells. -/
def cellsI (l : List In) : List Value := l.flatMap In.cells

theorem cellsI_snoc (l : List In) (x : In) : cellsI (l ++ [x]) = cellsI l ++ x.cells := by simp [cellsI]

theorem cellsI_length (l : List In) : (cellsI l).length = l.length * 4 := by
  induction l with
  | nil => rfl
  | cons x l ih =>
    show (x.cells ++ cellsI l).length = _
    rw [List.length_append, ih, List.length_cons, Nat.add_mul]
    show 4 + _ = _
    omega

theorem cellsI_get (l : List In) : ∀ (i : Nat) (x : In) (c : Nat), l[i]? = some x → c < 4 → (cellsI l)[i * 4 + c]? = x.cells[c]? := by
  induction l with
  | nil => intro i x c h; simp at h
  | cons y l ih =>
    intro i x c h hc
    show (y.cells ++ cellsI l)[i * 4 + c]? = _
    cases i with
    | zero =>
      simp at h
      subst h
      rw [List.getElem?_append_left (by show _ < 4; omega)]
      congr 1
      omega
    | succ i =>
      rw [List.getElem?_append_right (by show 4 ≤ _; omega)]
      rw [List.getElem?_cons_succ] at h
      rw [← ih i x c h hc]
      congr 1
      show (i + 1) * 4 + c - 4 = _
      omega

theorem owns_ins {w : World} {base : Nat} {v : Value} {n : Nat} {l : List In} (h : w.ownsRow base 78 4 v n (cellsI l)) (hl : ∀ x ∈ l, x.ok) : ∃ a cap, v = .slice a n cap ∧ Ins w a n l := by
  have hlen : l.length = n := by have := h.1; rw [cellsI_length] at this; omega
  rcases h.2 with ⟨rfl, rfl⟩ | ⟨g, cap, cur, rfl, hb, hg, hnc, hcm, hcs, htake⟩
  · exact ⟨none, 0, rfl, hlen, hl, fun h => absurd h (by omega)⟩
  · refine ⟨_, cap, rfl, hlen, hl, fun _ => ⟨g, 0, rfl, fun i x hx => ?_⟩⟩
    have key : ∀ c u, c < 4 → x.cells[c]? = some u → w.cell? ⟨g, 0 + i * 4 + c, none⟩ = some u := by
      intro c u hc hu
      have := h.cells (g := g) rfl (i * 4 + c) u (by rw [cellsI_get l i x c hx hc]; exact hu)
      rw [show (⟨g, 0 + i * 4 + c, none⟩ : Addr) = (⟨g, 0, none⟩ : Addr).add (i * 4 + c) from by unfold Addr.add; split <;> simp_all]
      exact this
    exact ⟨key 0 _ (by decide) rfl, key 1 _ (by decide) rfl, key 2 _ (by decide) rfl, key 3 _ (by decide) rfl⟩

theorem new_cells (w : World) (x : In) (o : Obj) (ho : o = .cells #[.int .u16 x.c, .int .u8 x.t, .int .u8 x.f, .int .u32 x.k] 78) : ∀ j u, x.cells[j]? = some u → (w.alloc o).cell? ((⟨w.heap.size, 0, none⟩ : Addr).add j) = some u := by
  subst ho
  intro j u hu
  match j, hu with
  | 0, hu => cases hu; simp [Addr.add]
  | 1, hu => cases hu; simp [Addr.add]
  | 2, hu => cases hu; simp [Addr.add]
  | 3, hu => cases hu; simp [Addr.add]

theorem append_in {w : World} {ops : Array Oper} {rest : List Oper} {o : Oper} {a : Act} {Q : Exit → Act → World → Prop} (hgd : o.guard = none) (s x : Operand)
    (ho : o.op = .call { callee := .builtin .append, args := #[s, x], argTypes := #[29, 29] })
    (base : Nat) (v : Value) (n : Nat) (l : List In) (hs : a.eval s = v) (hown : w.ownsRow base 78 4 v n (cellsI l))
    (it : In) (ad : Addr) (hx : a.eval x = .slice (some ad) 1 1) (hnews : ∀ j u, it.cells[j]? = some u → w.cell? (ad.add j) = some u)
    (hn : n ≤ 1000000) (hbase : base ≤ w.heap.size)
    (h : ∀ v' w', w'.ownsRow base 78 4 v' (n + 1) (cellsI (l ++ [it])) → w.grownBy w' v.ownBlock → wpList Tryz.prog ops Q rest (a.put o.dst v') w') : wpList Tryz.prog ops Q (o :: rest) a w := by
  obtain ⟨i0, hi, hz0, hz1, hz2⟩ := info_parts Tryz.info78
  refine wpList_append_own _ hgd s x 29 ho base 78 i0 _ 4 8 Tryz.underlying29 hi hz0 hz1 hz2 rfl (by decide) v n (cellsI l) hs hown ad 1 1 it.cells hx rfl hnews (by intro u hu; simp [In.cells] at hu; rcases hu with rfl | rfl | rfl | rfl <;> rfl) (by unfold maxLen; omega) (by omega) hbase ?_
  intro v' w' h1 h2 _
  exact h v' w' (by rw [cellsI_snoc]; exact h1) h2

end Go.Proofs.YtpojlfenmanehaaGreat.V

namespace Go.Proofs.YtpojlfenmanehaaGreat.V
open Go.RowKit

/-- the codes that a slice leads to. -/
def Us (w : World) (a : Option Addr) (len : Nat) (l : List Int) : Prop :=
  l.length = len ∧ ∃ b off, a = some ⟨b, off, none⟩ ∧ ∀ i, i < len → w.cell? ⟨b, off + i, none⟩ = some (.int .u16 (l.getD i 0))

/-- is a code in a list? -/
def isIn (l : List Int) (c : Int) : Bool := l.contains c

theorem isIn_zero (l : List Int) (c : Int) : isIn (l.take 0) c = false := rfl

theorem isIn_take (l : List Int) (c : Int) (k : Nat) (hk : k < l.length) : isIn (l.take (k + 1)) c = (isIn (l.take k) c || l.getD k 0 == c) := by
  have e1 : l.take (k + 1) = l.take k ++ [l[k]] := by rw [List.take_add_one, List.getElem?_eq_getElem hk]; rfl
  have e2 : l.getD k 0 = l[k] := by simp [hk]
  have e3 : (c == l[k]) = (l[k] == c) := Bool.beq_comm
  rw [e1, e2]
  unfold isIn
  rw [List.contains_eq_any_beq, List.contains_eq_any_beq, List.any_append, List.any_cons, List.any_nil, Bool.or_false, e3]

theorem isIn_get (l : List Int) (c : Int) (k : Nat) (hk : k < l.length) (h : l.getD k 0 = c) : isIn l c = true := by
  have e2 : l.getD k 0 = l[k] := by simp [hk]
  unfold isIn
  rw [← h, e2]
  simp

/-- a place that was found, or none. -/
def Idx (e : Ending) (b : Bool) : Prop := (∃ k : Nat, e = .returned (.int .i64 k) ∧ b = true) ∨ (e = .returned (.int .i64 (-1)) ∧ b = false)

set_option maxHeartbeats 400000 in
theorem index_any (a : Option Addr) (len cap : Nat) (l : List Int) (c : Int) (w : World) (hlen : len ≤ 100) (h : Us w a len l) :
    Calls Tryz.prog 143 #[.slice a len cap, .int .u16 c] w fun e w' => Idx e (isIn l c) ∧ w' = w := by
  obtain ⟨hll, b, off, rfl, hc⟩ := h
  have HC : Hid (∀ i, i < len → w.cell? ⟨b, off + i, none⟩ = some (.int .u16 (l.getD i 0))) := hc
  clear hc
  go_enter Tryz.func143, Tryz.ntmps143
  go_wp2
  go_loop [8] (fun i => ∃ k : Nat, k ≤ len ∧ i = .int .i64 k ∧ isIn (l.take k) c = false) (fun i => len - (intOf i).toNat)
  case atStart => exact ⟨0, Nat.zero_le _, rfl, rfl⟩
  case round =>
    obtain ⟨k, hk, rfl, hno⟩ := hrel
    by_cases hlt : k < len
    · have hck := HC.out k hlt
      have HT : Hid (isIn (l.take (k + 1)) c = (isIn (l.take k) c || l.getD k 0 == c)) := isIn_take l c k (by omega)
      have HM : Hid (l.getD k 0 = c → isIn l c = true) := isIn_get l c k (by omega)
      have HN : Hid (isIn (l.take k) c = false) := hno
      clear hno
      generalize l.getD k 0 = x at *
      by_cases hx : x = c
      · have HF : Hid (isIn l c = true) := HM.out hx
        clear HM HT HN
        subst hx
        go_wp2
        go_ret
        exact ⟨.inl ⟨k, rfl, HF.out⟩, rfl⟩
      · have hx2 : ¬ c = x := fun e => hx e.symm
        go_wp2
        go_round
        case rel => exact ⟨k + 1, by omega, by go_num, by rw [HT.out, HN.out]; simp [hx]⟩
        case measure => simp [intOf]; omega
    · have hno' : Hid (isIn l c = false) := by unfold Hid; rw [List.take_of_length_le (by omega)] at hno; exact hno
      go_wp2
      go_ret
      exact ⟨.inr ⟨rfl, hno'.out⟩, rfl⟩

theorem contains_any (a : Option Addr) (len cap : Nat) (l : List Int) (c : Int) (w : World) (hlen : len ≤ 100) (h : Us w a len l) :
    Calls Tryz.prog 114 #[.slice a len cap, .int .u16 c] w fun e w' => e = .returned (.bool (isIn l c)) ∧ w' = w := by
  go_enter Tryz.func114, Tryz.ntmps114
  go_wp2_with fail
  refine (index_any a len cap l c _ hlen h).mono ?_
  rintro e w2 ⟨⟨k, rfl, hz⟩ | ⟨rfl, hz⟩, rfl⟩
  · go_wp2
    go_ret
    exact ⟨by rw [hz]; rfl, rfl⟩
  · go_wp2
    go_ret
    exact ⟨by rw [hz]; rfl, rfl⟩

set_option maxHeartbeats 400000 in
theorem has_any (a : Option Addr) (len cap : Nat) (l : List Int) (c : Int) (w : World) (hlen : len ≤ 100) (h : Us w a len l) :
    Calls Tryz.prog 115 #[.slice a len cap, .int .u16 c] w fun e w' => e = .returned (.bool (isIn l c)) ∧ w' = w := by
  obtain ⟨hll, b, off, rfl, hc⟩ := h
  have HC : Hid (∀ i, i < len → w.cell? ⟨b, off + i, none⟩ = some (.int .u16 (l.getD i 0))) := hc
  clear hc
  go_enter Tryz.func115, Tryz.ntmps115
  go_wp2
  go_loop [5] (fun i => ∃ k : Nat, k ≤ len ∧ i = .int .i64 k ∧ isIn (l.take k) c = false) (fun i => len - (intOf i).toNat)
  case atStart => exact ⟨0, Nat.zero_le _, rfl, rfl⟩
  case round =>
    obtain ⟨k, hk, rfl, hno⟩ := hrel
    by_cases hlt : k < len
    · have hck := HC.out k hlt
      have HT : Hid (isIn (l.take (k + 1)) c = (isIn (l.take k) c || l.getD k 0 == c)) := isIn_take l c k (by omega)
      have HM : Hid (l.getD k 0 = c → isIn l c = true) := isIn_get l c k (by omega)
      have HN : Hid (isIn (l.take k) c = false) := hno
      clear hno
      generalize l.getD k 0 = x at *
      by_cases hx : x = c
      · have HF : Hid (isIn l c = true) := HM.out hx
        clear HM HT HN
        subst hx
        go_wp2
        go_ret
        exact ⟨by rw [HF.out]; rfl, rfl⟩
      · go_wp2
        go_round
        case rel => exact ⟨k + 1, by omega, by go_num, by rw [HT.out, HN.out]; simp [hx]⟩
        case measure => simp [intOf]; omega
    · have hno' : Hid (isIn l c = false) := by unfold Hid; rw [List.take_of_length_le (by omega)] at hno; exact hno
      go_wp2
      go_ret
      exact ⟨by rw [hno'.out]; rfl, rfl⟩

theorem byK_any (c : Int) (w : World) :
    Calls Tryz.prog 77 #[.int .u16 c] w fun e w' => e = .returned (.int .u16 (bits .andNot .u16 c 8)) ∧ w' = w := by
  go_enter Tryz.func77, Tryz.ntmps77
  go_wp2
  go_ret
  exact ⟨rfl, rfl⟩

/-- the codes that stand alone. -/
def aloneL : List Int := [32, 0, 1, 96, 97, 2, 3, 132, 5, 6, 22, 7, 135]
/-- the codes that compute. -/
def compL : List Int := [4, 20, 36, 52, 68, 84, 100, 116, 164]
/-- the codes that compare. -/
def cmpL : List Int := [21, 37, 53, 69]
/-- the document's codes, but for those by X. -/
def plainL : List Int := [32, 0, 1, 96, 97, 2, 3, 4, 20, 36, 52, 68, 84, 100, 116, 132, 164, 5, 21, 37, 53, 69, 6, 22, 7, 135]
/-- the document's codes that may be by X. -/
def withL : List Int := [4, 20, 36, 52, 68, 84, 100, 116, 164, 21, 37, 53, 69]

theorem us_alone (w : World) : Us (w.alloc (.cells #[.int .u16 32, .int .u16 0, .int .u16 1, .int .u16 96, .int .u16 97, .int .u16 2, .int .u16 3, .int .u16 132, .int .u16 5, .int .u16 6, .int .u16 22, .int .u16 7, .int .u16 135] 76)) (some ⟨w.heap.size, 0, none⟩) 13 aloneL := by
  refine ⟨rfl, _, _, rfl, fun i hi => ?_⟩
  match i, hi with
  | 0, _ | 1, _ | 2, _ | 3, _ | 4, _ | 5, _ | 6, _ | 7, _ | 8, _ | 9, _ | 10, _ | 11, _ | 12, _ => simp [aloneL]

theorem alone_any (c : Int) (w : World) :
    Calls Tryz.prog 78 #[.int .u16 c] w fun e w' => e = .returned (.bool (isIn aloneL c)) ∧ Below w.heap.size w w' := by
  have e1 : ∀ o, Below w.heap.size w (w.alloc o) := fun o => (Below.refl _ _).alloc (Nat.le_refl _) _
  have hu := us_alone w
  go_enter Tryz.func78, Tryz.ntmps78
  go_wp2_with (go_at_call 114; refine (contains_any _ 13 13 aloneL c _ (by decide) hu).mono ?_; rintro e w2 ⟨rfl, rfl⟩)
  go_ret
  exact ⟨rfl, e1 _⟩

end Go.Proofs.YtpojlfenmanehaaGreat.V

namespace Go.Proofs.YtpojlfenmanehaaGreat.V
open Go.RowKit

theorem isIn_cons (a : Int) (l : List Int) (c : Int) : isIn (a :: l) c = (c == a || isIn l c) := rfl
theorem isIn_nil (c : Int) : isIn [] c = false := rfl

set_option maxHeartbeats 400000 in
theorem compares_any (c : Int) (w : World) :
    Calls Tryz.prog 80 #[.int .u16 c] w fun e w' => e = .returned (.bool (isIn cmpL c)) ∧ w' = w := by
  go_enter Tryz.func80, Tryz.ntmps80
  go_wp2
  all_goals (go_ret; exact ⟨ret_bool (by simp [cmpL, isIn_cons, isIn_nil, *]), rfl⟩)

set_option maxHeartbeats 400000 in
theorem computes_any (c : Int) (w : World) :
    Calls Tryz.prog 79 #[.int .u16 c] w fun e w' => e = .returned (.bool (isIn compL c)) ∧ w' = w := by
  go_enter Tryz.func79, Tryz.ntmps79
  go_wp2
  all_goals (go_ret; exact ⟨ret_bool (by simp [compL, isIn_cons, isIn_nil, *]), rfl⟩)

/-- the codes that end a program. -/
def endL : List Int := [6, 22]
/-- the document's codes that jump. -/
def jumpL : List Int := [5, 21, 37, 53, 69, 29, 45, 61, 77]

theorem ends_any (c : Int) (w : World) :
    Calls Tryz.prog 48 #[.int .u16 c] w fun e w' => e = .returned (.bool (isIn endL c)) ∧ w' = w := by
  go_enter Tryz.func48, Tryz.ntmps48
  go_wp2
  all_goals (go_ret; exact ⟨ret_bool (by simp [endL, isIn_cons, isIn_nil, *]), rfl⟩)

theorem refEnds_any (c : Int) (w : World) :
    Calls Tryz.prog 86 #[.int .u16 c] w fun e w' => e = .returned (.bool (isIn endL c)) ∧ w' = w := by
  go_enter Tryz.func86, Tryz.ntmps86
  go_wp2
  all_goals (go_ret; exact ⟨ret_bool (by simp [endL, isIn_cons, isIn_nil, *]), rfl⟩)

set_option maxHeartbeats 800000 in
theorem refJumps_any (c : Int) (w : World) :
    Calls Tryz.prog 85 #[.int .u16 c] w fun e w' => e = .returned (.bool (isIn jumpL c)) ∧ w' = w := by
  go_enter Tryz.func85, Tryz.ntmps85
  go_wp2
  all_goals (go_ret; exact ⟨ret_bool (by simp [jumpL, isIn_cons, isIn_nil, Bool.or_assoc, *]), rfl⟩)

/-- the code by K. -/
def kOf (c : Int) : Int := bits .andNot .u16 c 8

/-- does a code jump? -/
def jumpsB (c : Int) : Bool := c == 5 || isIn cmpL (kOf c)
/-- is a code an instruction's? -/
def knownB (c : Int) : Bool := isIn aloneL c || isIn compL (kOf c) || isIn cmpL (kOf c)
/-- is a code an instruction's, by the document? -/
def refKnownB (c : Int) : Bool := isIn plainL c || (decide (8 ≤ c) && isIn withL (c - 8))

theorem jumps_any (c : Int) (w : World) :
    Calls Tryz.prog 81 #[.int .u16 c] w fun e w' => e = .returned (.bool (jumpsB c)) ∧ w' = w := by
  go_enter Tryz.func81, Tryz.ntmps81
  go_wp2_with (first | (go_at_call 77; refine (byK_any c _).mono ?_; rintro e w2 ⟨rfl, rfl⟩) | (go_at_call 80; refine (compares_any _ _).mono ?_; rintro e w2 ⟨rfl, rfl⟩))
  all_goals (go_ret; exact ⟨ret_bool (by simp [jumpsB, kOf, *]), rfl⟩)

theorem known_any (c : Int) (w : World) :
    Calls Tryz.prog 44 #[.int .u16 c] w fun e w' => e = .returned (.bool (knownB c)) ∧ Below w.heap.size w w' := by
  go_enter Tryz.func44, Tryz.ntmps44
  go_wp2_with (first | (go_at_call 77; refine (byK_any c _).mono ?_; rintro e w2 ⟨rfl, rfl⟩) | (go_at_call 78; refine (alone_any c _).mono ?_; rintro e w2 ⟨rfl, hb⟩) | (go_at_call 79; refine (computes_any _ _).mono ?_; rintro e w3 ⟨rfl, rfl⟩) | (go_at_call 80; refine (compares_any _ _).mono ?_; rintro e w4 ⟨rfl, rfl⟩))
  all_goals (go_ret; exact ⟨ret_bool (by simp [knownB, kOf, *]), by assumption⟩)

end Go.Proofs.YtpojlfenmanehaaGreat.V

namespace Go.Proofs.YtpojlfenmanehaaGreat.V
open Go.RowKit

theorem us_plain (w : World) : Us (w.alloc (.cells #[.int .u16 32, .int .u16 0, .int .u16 1, .int .u16 96, .int .u16 97, .int .u16 2, .int .u16 3, .int .u16 4, .int .u16 20, .int .u16 36, .int .u16 52, .int .u16 68, .int .u16 84, .int .u16 100, .int .u16 116, .int .u16 132, .int .u16 164, .int .u16 5, .int .u16 21, .int .u16 37, .int .u16 53, .int .u16 69, .int .u16 6, .int .u16 22, .int .u16 7, .int .u16 135] 76)) (some ⟨w.heap.size, 0, none⟩) 26 plainL := by
  refine ⟨rfl, _, _, rfl, fun i hi => ?_⟩
  have h13 : i < 13 ∨ (13 ≤ i ∧ i - 13 < 13) := by omega
  rcases h13 with h | ⟨h, h2⟩
  · match i, h with
    | 0, _ | 1, _ | 2, _ | 3, _ | 4, _ | 5, _ | 6, _ | 7, _ | 8, _ | 9, _ | 10, _ | 11, _ | 12, _ => simp [plainL]
  · obtain ⟨j, rfl⟩ : ∃ j, i = j + 13 := ⟨i - 13, by omega⟩
    have hj : j < 13 := by omega
    clear h h2 hi
    match j, hj with
    | 0, _ | 1, _ | 2, _ | 3, _ | 4, _ | 5, _ | 6, _ | 7, _ | 8, _ | 9, _ | 10, _ | 11, _ | 12, _ => simp [plainL]

theorem us_with (w : World) : Us (w.alloc (.cells #[.int .u16 4, .int .u16 20, .int .u16 36, .int .u16 52, .int .u16 68, .int .u16 84, .int .u16 100, .int .u16 116, .int .u16 164, .int .u16 21, .int .u16 37, .int .u16 53, .int .u16 69] 76)) (some ⟨w.heap.size, 0, none⟩) 13 withL := by
  refine ⟨rfl, _, _, rfl, fun i hi => ?_⟩
  match i, hi with
  | 0, _ | 1, _ | 2, _ | 3, _ | 4, _ | 5, _ | 6, _ | 7, _ | 8, _ | 9, _ | 10, _ | 11, _ | 12, _ => simp [withL]

theorem plain_any (w : World) :
    Calls Tryz.prog 116 #[] w fun e w' => (∃ a, e = .returned (.slice a 26 26) ∧ Us w' a 26 plainL) ∧ Below w.heap.size w w' := by
  have e1 : ∀ o, Below w.heap.size w (w.alloc o) := fun o => (Below.refl _ _).alloc (Nat.le_refl _) _
  have hu := us_plain w
  go_enter Tryz.func116, Tryz.ntmps116
  go_wp2
  go_ret
  exact ⟨⟨_, rfl, hu⟩, e1 _⟩

theorem with_any (w : World) :
    Calls Tryz.prog 117 #[] w fun e w' => (∃ a, e = .returned (.slice a 13 13) ∧ Us w' a 13 withL) ∧ Below w.heap.size w w' := by
  have e1 : ∀ o, Below w.heap.size w (w.alloc o) := fun o => (Below.refl _ _).alloc (Nat.le_refl _) _
  have hu := us_with w
  go_enter Tryz.func117, Tryz.ntmps117
  go_wp2
  go_ret
  exact ⟨⟨_, rfl, hu⟩, e1 _⟩

set_option maxHeartbeats 400000 in
theorem refKnown_any (c : Int) (w : World) (h0 : 0 ≤ c) (h1 : c ≤ 65535) :
    Calls Tryz.prog 84 #[.int .u16 c] w fun e w' => e = .returned (.bool (refKnownB c)) ∧ Below w.heap.size w w' := by
  go_enter Tryz.func84, Tryz.ntmps84
  go_wp2_with fail
  refine (plain_any _).mono ?_
  rintro e w1 ⟨⟨a1, rfl, u1⟩, b1⟩
  go_wp2_with fail
  refine (has_any a1 26 26 plainL c _ (by decide) u1).mono ?_
  rintro e w2 ⟨rfl, rfl⟩
  have HE : Hid (refKnownB c = (isIn plainL c || (decide (8 ≤ c) && isIn withL (c - 8)))) := rfl
  generalize isIn plainL c = p at *
  cases p with
  | true =>
    go_wp2
    go_ret
    exact ⟨ret_bool (by rw [HE.out]; rfl), b1⟩
  | false =>
    by_cases h8 : 8 ≤ c
    · have hs : IntKind.u16.wrap (c - 8) = c - 8 := by rw [IntKind.wrap_u16]; omega
      go_wp2_with (first | (go_at_call 117; refine (with_any _).mono ?_; rintro e w3 ⟨⟨a3, rfl, u3⟩, b3⟩) | (go_at_call 115; refine (has_any a3 13 13 withL (c - 8) _ (by decide) u3).mono ?_; rintro e w4 ⟨rfl, rfl⟩))
      go_ret
      exact ⟨ret_bool (by rw [HE.out, decide_eq_true h8]; rfl), b1.trans (b3.mono b1.size)⟩
    · have HD : Hid (decide (8 ≤ c) = false) := decide_eq_false h8
      go_wp2
      go_ret
      exact ⟨ret_bool (by rw [HE.out, HD.out]; rfl), b1⟩

/-- the code by K, of a code that is a Nat. -/
def kNat (n : Nat) : Nat := n &&& 65527

theorem kOf_nat (n : Nat) (h : n < 65536) : kOf (n : Int) = (kNat n : Int) := u16_andNot_nat n 8 h (by decide)

theorem kNat_big (n : Nat) (h : n < 65536) (h2 : 256 ≤ n) : 256 ≤ kNat n := by
  have e : kNat n >>> 8 = n / 256 := by
    unfold kNat
    rw [Nat.shiftRight_and_distrib, show 65527 >>> 8 = 2 ^ 8 - 1 from rfl, Nat.and_two_pow_sub_one_eq_mod, Nat.shiftRight_eq_div_pow]
    exact Nat.mod_eq_of_lt (by omega)
  rw [Nat.shiftRight_eq_div_pow] at e
  have e2 : kNat n / 256 = n / 256 := e
  omega

theorem isIn_big (l : List Int) (c : Int) (h : ∀ z ∈ l, z < c) : isIn l c = false := by
  induction l with
  | nil => rfl
  | cons a l ih =>
    have ha := h a (by simp)
    rw [isIn_cons, ih (fun z hz => h z (by simp [hz]))]
    simp
    omega

/-- what is to be known of a code: the two ways to know it, to jump and to end agree; what jumps or ends is known, and none does both. -/
def fine (c k : Int) : Bool :=
  (isIn aloneL c || isIn compL k || isIn cmpL k) == (isIn plainL c || (decide (8 ≤ c) && isIn withL (c - 8))) &&
  (c == 5 || isIn cmpL k) == isIn jumpL c &&
  !((c == 5 || isIn cmpL k) && isIn endL c) && (!((c == 5 || isIn cmpL k) || isIn endL c) || (isIn aloneL c || isIn compL k || isIn cmpL k))

theorem fine_small : ∀ n : Fin 256, fine (n.val : Int) (kNat n.val : Int) = true := by decide +kernel

theorem unknown_big (n : Nat) (h : n < 65536) (h2 : 256 ≤ n) : isIn aloneL (n : Int) = false ∧ isIn compL (kNat n : Int) = false ∧ isIn cmpL (kNat n : Int) = false := by
  have hk := kNat_big n h h2
  refine ⟨isIn_big _ _ ?_, isIn_big _ _ ?_, isIn_big _ _ ?_⟩
  · intro z hz
    have : z < 256 := by revert z; decide
    omega
  · intro z hz
    have : z < 256 := by revert z; decide
    omega
  · intro z hz
    have : z < 256 := by revert z; decide
    omega

theorem fine_all (n : Nat) (h : n < 65536) : fine (n : Int) (kOf (n : Int)) = true := by
  rw [kOf_nat n h]
  by_cases h2 : n < 256
  · exact fine_small ⟨n, h2⟩
  · obtain ⟨e1, e2, e3⟩ := unknown_big n h (by omega)
    have e4 : isIn plainL (n : Int) = false := isIn_big _ _ (fun z hz => by have : z < 200 := by { revert z; decide }; omega)
    have e5 : isIn withL ((n : Int) - 8) = false := isIn_big _ _ (fun z hz => by have : z < 200 := by { revert z; decide }; omega)
    have e6 : isIn jumpL (n : Int) = false := isIn_big _ _ (fun z hz => by have : z < 200 := by { revert z; decide }; omega)
    have e7 : isIn endL (n : Int) = false := isIn_big _ _ (fun z hz => by have : z < 200 := by { revert z; decide }; omega)
    have e8 : ((n : Int) == 5) = false := by simp; omega
    unfold fine
    rw [e1, e2, e3, e4, e5, e6, e7, e8]
    simp

theorem known_same (c : Int) (h0 : 0 ≤ c) (h1 : c ≤ 65535) : knownB c = refKnownB c ∧ jumpsB c = isIn jumpL c ∧ (jumpsB c && isIn endL c) = false ∧ ((jumpsB c || isIn endL c) = true → knownB c = true) := by
  obtain ⟨n, rfl⟩ := Int.eq_ofNat_of_zero_le h0
  have h := fine_all n (by omega)
  unfold fine at h
  simp only [Bool.and_eq_true, beq_iff_eq] at h
  obtain ⟨⟨⟨e1, e2⟩, e3⟩, e4⟩ := h
  rw [Bool.not_eq_true'] at e3
  refine ⟨e1, e2, e3, fun hx => ?_⟩
  show (isIn aloneL (n : Int) || isIn compL (kOf n) || isIn cmpL (kOf n)) = true
  have hx' : ((n : Int) == 5 || isIn cmpL (kOf n) || isIn endL (n : Int)) = true := hx
  rw [hx', Bool.not_true, Bool.false_or] at e4
  exact e4

theorem known_high (c : Int) (h0 : 256 ≤ c) (h1 : c ≤ 65535) : knownB c = false := by
  obtain ⟨n, rfl⟩ := Int.eq_ofNat_of_zero_le (show 0 ≤ c by omega)
  obtain ⟨e1, e2, e3⟩ := unknown_big n (by omega) (by omega)
  unfold knownB
  rw [kOf_nat n (by omega), e1, e2, e3]
  rfl

end Go.Proofs.YtpojlfenmanehaaGreat.V

namespace Go.Proofs.YtpojlfenmanehaaGreat.V

/-- the codes that take or fill a cell. -/
def cellL : List Int := [96, 97, 2, 3]
/-- the codes that shift by K. -/
def shiftL : List Int := [100, 116]

/-- how many instructions may be left out behind one. -/
def skipsL (x : In) : List Int :=
  if isIn endL x.c = true then [] else if x.c = 5 then [x.k] else if jumpsB x.c = false then [0] else if x.t = x.f then [x.t] else if x.t < x.f then [x.t, x.f] else [x.f, x.t]

/-- is one left of so many? -/
def insB (s : Int) (n : Nat) : Bool := decide (s < n)

/-- does it load what is not there? -/
def loadsB (c k : Int) : Bool := (c == 32 && (!decide (k % 4 = 0) || decide (64 ≤ k))) || (!(c == 32) && (isIn cellL c && decide (16 ≤ k)))
/-- does it reckon what can't be? -/
def reckB (c k : Int) : Bool := (c == 52 && k == 0) || (!(c == 52) && (isIn shiftL c && decide (31 < k)))
/-- does it jump out? -/
def outB (x : In) (n : Nat) : Bool := jumpsB x.c && (skipsL x).any (fun s => !insB s n)

/-- what is wrong with an instruction that has so many behind it; 0: nothing. -/
def fault (x : In) (n : Nat) : Int :=
  if knownB x.c = false then 11 else if loadsB x.c x.k = true then 12 else if reckB x.c x.k = true then 13 else if outB x n = true then 14 else if n = 0 ∧ isIn endL x.c = false then 15 else 0

/-- the first fault of a program, and its place. -/
def ff : List In → Int → Int × Int
  | [], _ => (0, -1)
  | x :: r, p => if fault x r.length = 0 then ff r (p + 1) else (fault x r.length, p)

/-- what Check tells. -/
def chk (l : List In) : Int × Int := if l.length = 0 then (10, 0) else if 4096 < l.length then (4, 4096) else ff l 0

theorem fault_range (x : In) (n : Nat) : 0 ≤ fault x n ∧ fault x n ≤ 15 ∧ fault x n ≠ 10 := by
  unfold fault
  repeat' split
  all_goals decide

theorem ff_drop_succ (l : List In) (k : Nat) (hk : k < l.length) (p : Int) : ff (l.drop k) p = if fault l[k] (l.length - 1 - k) = 0 then ff (l.drop (k + 1)) (p + 1) else (fault l[k] (l.length - 1 - k), p) := by
  rw [List.drop_eq_getElem_cons hk]
  show (if fault l[k] (l.drop (k + 1)).length = 0 then ff (l.drop (k + 1)) (p + 1) else (fault l[k] (l.drop (k + 1)).length, p)) = _
  rw [show (l.drop (k + 1)).length = l.length - 1 - k from by rw [List.length_drop]; omega]

theorem ff_bd (l : List In) (p : Int) : ((ff l p).1 = 0 ∧ (ff l p).2 = -1) ∨ (0 < (ff l p).1 ∧ (ff l p).1 ≤ 15 ∧ (ff l p).1 ≠ 10 ∧ p ≤ (ff l p).2 ∧ (ff l p).2 < p + l.length) := by
  induction l generalizing p with
  | nil => exact .inl ⟨rfl, rfl⟩
  | cons x r ih =>
    have hf := fault_range x r.length
    unfold ff
    by_cases h : fault x r.length = 0
    · rw [if_pos h]
      rcases ih (p + 1) with h1 | h1
      · exact .inl h1
      · right
        rw [List.length_cons]
        omega
    · rw [if_neg h, List.length_cons]
      right
      show 0 < fault x r.length ∧ fault x r.length ≤ 15 ∧ fault x r.length ≠ 10 ∧ p ≤ p ∧ p < p + _
      omega

theorem ff_shift (l : List In) (p q : Int) : ff l (p + q) = if (ff l p).1 = 0 then (0, -1) else ((ff l p).1, (ff l p).2 + q) := by
  induction l generalizing p with
  | nil => rfl
  | cons x r ih =>
    unfold ff
    by_cases h : fault x r.length = 0
    · rw [if_pos h, if_pos h, show p + q + 1 = p + 1 + q from by omega, ih (p + 1)]
    · rw [if_neg h, if_neg h]
      show _ = if fault x r.length = 0 then _ else _
      rw [if_neg h]

theorem ff_drop (l : List In) (p : Int) (k : Nat) (q : Int) (h : (ff l p).1 = 0) : ff (l.drop k) q = (0, -1) := by
  induction l generalizing p k with
  | nil => rw [List.drop_nil]; rfl
  | cons x r ih =>
    unfold ff at h
    by_cases hx : fault x r.length = 0
    · rw [if_pos hx] at h
      cases k with
      | zero =>
        show (if fault x r.length = 0 then ff r (q + 1) else _) = _
        rw [if_pos hx]
        have := ff_shift r (p + 1) (q + 1 - (p + 1))
        rw [show p + 1 + (q + 1 - (p + 1)) = q + 1 from by omega, if_pos h] at this
        exact this
      | succ k => exact ih (p + 1) k h
    · rw [if_neg hx] at h
      exact absurd h hx

theorem ff_set (l : List In) (p : Int) (i : Nat) (x : In) (hi : i < l.length) (hx : fault x (l.length - 1 - i) ≠ 0) :
    ff (l.set i x) p = if (ff l p).1 ≠ 0 ∧ (ff l p).2 < p + i then ff l p else (fault x (l.length - 1 - i), p + i) := by
  induction l generalizing p i with
  | nil => cases hi
  | cons y r ih =>
    cases i with
    | zero =>
      have hb := ff_bd (y :: r) p
      rw [if_neg (by omega)]
      show (if fault x r.length = 0 then _ else (fault x r.length, p)) = _
      rw [List.length_cons, show r.length + 1 - 1 - 0 = r.length from by omega] at *
      rw [if_neg hx]
      show _ = (_, p + ((0 : Nat) : Int))
      rw [show p + ((0 : Nat) : Int) = p from by omega]
    | succ i =>
      rw [List.length_cons] at hi hx
      have hn : (y :: r).length - 1 - (i + 1) = r.length - 1 - i := by rw [List.length_cons]; omega
      rw [show r.length + 1 - 1 - (i + 1) = r.length - 1 - i from by omega] at hx
      show (if fault y (r.set i x).length = 0 then ff (r.set i x) (p + 1) else (fault y (r.set i x).length, p)) = _
      rw [hn, List.length_set, ih (p + 1) i (by omega) hx]
      show _ = if (if fault y r.length = 0 then ff r (p + 1) else (fault y r.length, p)).1 ≠ 0 ∧ (if fault y r.length = 0 then ff r (p + 1) else (fault y r.length, p)).2 < p + ((i + 1 : Nat) : Int) then (if fault y r.length = 0 then ff r (p + 1) else (fault y r.length, p)) else (_, p + ((i + 1 : Nat) : Int))
      have e : p + ((i + 1 : Nat) : Int) = p + 1 + (i : Int) := by omega
      rw [e]
      by_cases hy : fault y r.length = 0
      · rw [if_pos hy, if_pos hy]
      · rw [if_neg hy, if_neg hy, if_pos]
        exact ⟨hy, by show p < _; omega⟩

theorem fault_imm (k : Int) (n : Nat) : fault ⟨0, 0, 0, k⟩ n = if n = 0 then 15 else 0 := by
  have e1 : knownB 0 = true := rfl
  have e2 : loadsB 0 k = false := rfl
  have e3 : reckB 0 k = false := rfl
  have ej : jumpsB 0 = false := by rw [show (0 : Int) = ((0 : Nat) : Int) from rfl]; unfold jumpsB; rw [kOf_nat 0 (by decide)]; decide +kernel
  have e4 : outB ⟨0, 0, 0, k⟩ n = false := by unfold outB; rw [ej]; rfl
  have e5 : isIn endL 0 = false := rfl
  unfold fault
  rw [e1, e2, e3, e4, e5]
  by_cases h : n = 0
  · simp [h]
  · simp [h]

theorem fault_bad (n : Nat) : fault ⟨255, 0, 0, 0⟩ n = 11 := by
  have e1 : knownB 255 = false := by rw [show (255 : Int) = ((255 : Nat) : Int) from rfl]; unfold knownB; rw [kOf_nat 255 (by decide)]; decide +kernel
  unfold fault
  rw [e1]
  rfl

theorem fault_far (n : Nat) (hn : n ≤ 4096) : fault ⟨5, 0, 0, 4294967295⟩ n = 14 := by
  have e1 : knownB 5 = true := rfl
  have e2 : loadsB 5 4294967295 = false := rfl
  have e3 : reckB 5 4294967295 = false := rfl
  have e4 : outB ⟨5, 0, 0, 4294967295⟩ n = true := by
    show ([(4294967295 : Int)].any fun s => !insB s n) = true
    rw [List.any_cons, List.any_nil, Bool.or_false]
    unfold insB
    simp
    omega
  unfold fault
  rw [e1, e2, e3, e4]
  rfl

end Go.Proofs.YtpojlfenmanehaaGreat.V

namespace Go.Proofs.YtpojlfenmanehaaGreat.V
open Go.RowKit

theorem Tryz.info3 : (Tryz.prog.info? 3).map (fun i => (i.zero, i.size, i.bytes)) = some (some (.int .i64 0), 1, 8) := by kernel_rfl

theorem size_alloc' (w : World) (o : Obj) : (w.alloc o).heap.size = w.heap.size + 1 := by simp

/-- the numbers that a slice leads to. -/
def Ns (k : IntKind) (w : World) (a : Option Addr) (len : Nat) (l : List Int) : Prop :=
  l.length = len ∧ (0 < len → ∃ b off, a = some ⟨b, off, none⟩ ∧ ∀ i, i < len → w.cell? ⟨b, off + i, none⟩ = some (.int k (l.getD i 0)))

theorem Ns.below {k : IntKind} {w w' : World} {a : Option Addr} {len : Nat} {l : List Int} (h : Ns k w a len l) (hb : Below w.heap.size w w') : Ns k w' a len l := by
  refine ⟨h.1, fun h0 => ?_⟩
  obtain ⟨b, off, ha, hc⟩ := h.2 h0
  refine ⟨b, off, ha, fun i hi => ?_⟩
  rw [hb.cell (p := ⟨b, off + i, none⟩) (World.block_lt_of_cell? w _ (hc i hi))]
  exact hc i hi

/-- numbers as cells. -/
def cellsN (l : List Int) : List Value := l.map (Value.int .i64)

theorem cellsN_app (l m : List Int) : cellsN (l ++ m) = cellsN l ++ cellsN m := by simp [cellsN]

theorem owns_ns {w : World} {base : Nat} {v : Value} {n : Nat} {l : List Int} (h : w.ownsRow base 3 1 v n (cellsN l)) : ∃ a cap, v = .slice a n cap ∧ Ns .i64 w a n l := by
  have hlen : l.length = n := by have := h.1; simpa [cellsN] using this
  rcases h.2 with ⟨rfl, rfl⟩ | ⟨g, cap, cur, rfl, hb, hg, hnc, hcm, hcs, htake⟩
  · exact ⟨none, 0, rfl, hlen, fun h => absurd h (by omega)⟩
  · refine ⟨_, cap, rfl, hlen, fun _ => ⟨g, 0, rfl, fun i hi => ?_⟩⟩
    have := h.cells (g := g) rfl i (.int .i64 (l.getD i 0)) (by simp [cellsN, List.getElem?_eq_getElem (show i < l.length from by omega)])
    rw [show (⟨g, 0 + i, none⟩ : Addr) = (⟨g, 0, none⟩ : Addr).add i from by unfold Addr.add; split <;> simp_all]
    exact this

theorem append_int {w : World} {ops : Array Oper} {rest : List Oper} {o : Oper} {a : Act} {Q : Exit → Act → World → Prop} (hgd : o.guard = none) (s x : Operand)
    (ho : o.op = .call { callee := .builtin .append, args := #[s, x], argTypes := #[71, 71] })
    (base : Nat) (v : Value) (n : Nat) (l : List Int) (hs : a.eval s = v) (hown : w.ownsRow base 3 1 v n (cellsN l))
    (z : Int) (ad : Addr) (hx : a.eval x = .slice (some ad) 1 1) (hnew : w.cell? ad = some (.int .i64 z))
    (hn : n ≤ 1000000) (hbase : base ≤ w.heap.size)
    (h : ∀ v' w', w'.ownsRow base 3 1 v' (n + 1) (cellsN (l ++ [z])) → w.grownBy w' v.ownBlock → wpList Tryz.prog ops Q rest (a.put o.dst v') w') : wpList Tryz.prog ops Q (o :: rest) a w := by
  obtain ⟨i0, hi, hz0, hz1, hz2⟩ := info_parts Tryz.info3
  refine wpList_append_own _ hgd s x 71 ho base 3 i0 _ 1 8 Tryz.underlying71 hi hz0 hz1 hz2 rfl (by decide) v n (cellsN l) hs hown ad 1 1 (cellsN [z]) hx rfl ?_ (by intro u hu; simp [cellsN] at hu; subst hu; rfl) (by unfold maxLen; omega) (by omega) hbase ?_
  · intro j u hu
    match j, hu with
    | 0, hu => cases hu; exact hnew
  · intro v' w' h1 h2 _
    exact h v' w' (by rw [cellsN_app]; exact h1) h2

theorem cellsI_app (l m : List In) : cellsI (l ++ m) = cellsI l ++ cellsI m := by simp [cellsI]

theorem cellsI_kind (l : List In) : ∀ u ∈ cellsI l, u.oneCell' = true := by
  intro u hu
  simp only [cellsI, List.mem_flatMap] at hu
  obtain ⟨x, _, hu⟩ := hu
  simp [In.cells] at hu
  rcases hu with rfl | rfl | rfl | rfl <;> rfl

theorem Ins.news {w : World} {x : Addr} {len : Nat} {l : List In} (h : Ins w (some x) len l) : ∀ j u, (cellsI l)[j]? = some u → w.cell? (x.add j) = some u := by
  intro j u hu
  have hj : j < l.length * 4 := by
    have := (List.getElem?_eq_some_iff.1 hu).1
    rw [cellsI_length] at this
    exact this
  obtain ⟨b, off, e, hc⟩ := h.2.2 (by have := h.1; omega)
  cases e
  have hd : j = j / 4 * 4 + j % 4 := by omega
  have hlt : j / 4 < l.length := by omega
  have hg := cellsI_get l (j / 4) l[j / 4] (j % 4) (List.getElem?_eq_getElem hlt) (by omega)
  rw [← hd, hu] at hg
  obtain ⟨c0, c1, c2, c3⟩ := hc (j / 4) l[j / 4] (List.getElem?_eq_getElem hlt)
  rw [Addr.add_lit]
  have hm : j % 4 < 4 := by omega
  rw [show off + j = off + j / 4 * 4 + j % 4 from by omega]
  generalize j % 4 = c at *
  match c, hm with
  | 0, _ => rw [Nat.add_zero, c0]; exact hg.symm
  | 1, _ => rw [c1]; exact hg.symm
  | 2, _ => rw [c2]; exact hg.symm
  | 3, _ => rw [c3]; exact hg.symm

theorem Ins.nil {w : World} {len : Nat} {l : List In} (h : Ins w none len l) : len = 0 ∧ l = [] := by
  have h0 : len = 0 := by
    rcases Nat.eq_zero_or_pos len with e | e
    · exact e
    · obtain ⟨_, _, e, _⟩ := h.2.2 e
      cases e
  exact ⟨h0, List.eq_nil_of_length_eq_zero (by rw [h.1, h0])⟩

theorem append_ins {w : World} {ops : Array Oper} {rest : List Oper} {o : Oper} {a : Act} {Q : Exit → Act → World → Prop} (hgd : o.guard = none) (s x : Operand)
    (ho : o.op = .call { callee := .builtin .append, args := #[s, x], argTypes := #[29, 29] })
    (base : Nat) (v : Value) (n : Nat) (l : List In) (hs : a.eval s = v) (hown : w.ownsRow base 78 4 v n (cellsI l))
    (ao : Option Addr) (m c : Nat) (k : List In) (hx : a.eval x = .slice ao m c) (hao : ao = none → c = 0) (hb : Ins w ao m k)
    (hn : n + m ≤ 100000) (hbase : base ≤ w.heap.size)
    (h : ∀ v' w', w'.ownsRow base 78 4 v' (n + m) (cellsI (l ++ k)) → w.grownBy w' v.ownBlock → wpList Tryz.prog ops Q rest (a.put o.dst v') w') : wpList Tryz.prog ops Q (o :: rest) a w := by
  obtain ⟨i0, hi, hz0, hz1, hz2⟩ := info_parts Tryz.info78
  cases ao with
  | none =>
    obtain ⟨rfl, rfl⟩ := hb.nil
    obtain rfl := hao rfl
    refine wpList_append_own_none hgd s x 29 ho base 78 i0 4 Tryz.underlying29 hi v n (cellsI l) hs hown hx ?_
    exact h v w (by simpa using hown) (grow_refl _ _)
  | some ad =>
    refine wpList_append_own _ hgd s x 29 ho base 78 i0 _ 4 8 Tryz.underlying29 hi hz0 hz1 hz2 rfl (by decide) v n (cellsI l) hs hown ad m c (cellsI k) hx (by rw [cellsI_length, hb.1]) hb.news (cellsI_kind k) (by unfold maxLen; omega) (by omega) hbase ?_
    intro v' w' h1 h2 _
    exact h v' w' (by rw [cellsI_app]; exact h1) h2

end Go.Proofs.YtpojlfenmanehaaGreat.V

namespace Go.Proofs.YtpojlfenmanehaaGreat.V
open Go.RowKit

theorem within_any (s : Int) (n : Nat) (w : World) (h0 : 0 ≤ s) (h1 : s ≤ 4294967295) (hn : n ≤ 1000000) :
    Calls Tryz.prog 83 #[.int .u32 s, .int .i64 n] w fun e w' => e = .returned (.bool (insB s n)) ∧ w' = w := by
  have e1 : IntKind.u64.wrap s = s := by rw [IntKind.wrap_u64]; omega
  have e2 : IntKind.u64.wrap (n : Int) = n := by rw [IntKind.wrap_u64]; omega
  go_enter Tryz.func83, Tryz.ntmps83
  go_wp2
  go_ret
  exact ⟨ret_bool (by unfold insB; rfl), rfl⟩

set_option maxHeartbeats 400000 in
theorem loads_any (x : In) (w : World) (hx : x.ok) :
    Calls Tryz.prog 45 #[x.val] w fun e w' => e = .returned (.bool (loadsB x.c x.k)) ∧ Below w.heap.size w w' := by
  obtain ⟨c, t, f, k⟩ := x
  obtain ⟨-, -, -, hk⟩ := hx
  have e1 : ∀ o, Below w.heap.size w (w.alloc o) := fun o => (Below.refl _ _).alloc (Nat.le_refl _) _
  unfold In.val
  dsimp only at *
  go_enter Tryz.func45, Tryz.ntmps45
  go_wp2
  all_goals (go_ret; exact ⟨ret_bool (by simp [loadsB, cellL, isIn_cons, isIn_nil, *]), e1 _⟩)

set_option maxHeartbeats 400000 in
theorem reck_any (x : In) (w : World) (hx : x.ok) :
    Calls Tryz.prog 46 #[x.val] w fun e w' => e = .returned (.bool (reckB x.c x.k)) ∧ Below w.heap.size w w' := by
  obtain ⟨c, t, f, k⟩ := x
  obtain ⟨-, -, -, hk⟩ := hx
  have e1 : ∀ o, Below w.heap.size w (w.alloc o) := fun o => (Below.refl _ _).alloc (Nat.le_refl _) _
  unfold In.val
  dsimp only at *
  go_enter Tryz.func46, Tryz.ntmps46
  go_wp2
  all_goals (go_ret; exact ⟨ret_bool (by simp [reckB, shiftL, isIn_cons, isIn_nil, *]), e1 _⟩)

end Go.Proofs.YtpojlfenmanehaaGreat.V

namespace Go.Proofs.YtpojlfenmanehaaGreat.V
open Go.RowKit

theorem ns_one (w : World) (a : Int) : Ns .u32 (w.alloc (.cells #[.int .u32 a] 37)) (some ⟨w.heap.size, 0, none⟩) 1 [a] := by
  refine ⟨rfl, fun _ => ⟨_, _, rfl, fun i hi => ?_⟩⟩
  match i, hi with
  | 0, _ => simp

theorem ns_two (w : World) (a b : Int) : Ns .u32 (w.alloc (.cells #[.int .u32 a, .int .u32 b] 37)) (some ⟨w.heap.size, 0, none⟩) 2 [a, b] := by
  refine ⟨rfl, fun _ => ⟨_, _, rfl, fun i hi => ?_⟩⟩
  match i, hi with
  | 0, _ | 1, _ => simp

/-- what skips tells. -/
def SkipsTold (w w' : World) (e : Ending) (l : List Int) : Prop := (∃ a, e = .returned (.slice a l.length l.length) ∧ Ns .u32 w' a l.length l) ∧ Below w.heap.size w w'

set_option maxHeartbeats 800000 in
theorem skips_any (x : In) (w : World) (hx : x.ok) :
    Calls Tryz.prog 82 #[x.val] w fun e w' => SkipsTold w w' e (skipsL x) := by
  have HE : Hid (∀ W : World, Calls Tryz.prog 48 #[.int .u16 x.c] W fun e w' => e = .returned (.bool (isIn endL x.c)) ∧ w' = W) := fun W => ends_any x.c W
  have HJ : Hid (∀ W : World, Calls Tryz.prog 81 #[.int .u16 x.c] W fun e w' => e = .returned (.bool (jumpsB x.c)) ∧ w' = W) := fun W => jumps_any x.c W
  have HS : Hid (skipsL x = if isIn endL x.c = true then [] else if x.c = 5 then [x.k] else if jumpsB x.c = false then [0] else if x.t = x.f then [x.t] else if x.t < x.f then [x.t, x.f] else [x.f, x.t]) := rfl
  have HX : Hid x.ok := hx
  clear hx
  generalize skipsL x = sl at *
  obtain ⟨c, t, f, k⟩ := x
  unfold In.val
  dsimp only at *
  have e1 : ∀ o, Below w.heap.size w (w.alloc o) := fun o => (Below.refl _ _).alloc (Nat.le_refl _) _
  have e2 : ∀ o o', Below w.heap.size w ((w.alloc o).alloc o') := fun o o' => (e1 o).alloc (by rw [size_alloc']; omega) _
  have n1 : ∀ (o : Obj) (a : Int), Ns .u32 ((w.alloc o).alloc (.cells #[.int .u32 a] 37)) (some ⟨w.heap.size + 1, 0, none⟩) 1 [a] := fun o a => by have := ns_one (w.alloc o) a; rw [size_alloc'] at this; exact this
  have n2 : ∀ (o : Obj) (a b : Int), Ns .u32 ((w.alloc o).alloc (.cells #[.int .u32 a, .int .u32 b] 37)) (some ⟨w.heap.size + 1, 0, none⟩) 2 [a, b] := fun o a b => by have := ns_two (w.alloc o) a b; rw [size_alloc'] at this; exact this
  have wt : IntKind.u32.wrap t = t := by have := HX.out; unfold In.ok at this; dsimp only at this; rw [IntKind.wrap_u32]; omega
  have wf : IntKind.u32.wrap f = f := by have := HX.out; unfold In.ok at this; dsimp only at this; rw [IntKind.wrap_u32]; omega
  generalize isIn endL c = p at *
  generalize jumpsB c = q at *
  cases p with
  | true =>
    have hs : Hid (sl = []) := by unfold Hid; rw [HS.out, if_pos rfl]
    clear HS
    go_enter Tryz.func82, Tryz.ntmps82
    go_wp2_with (go_at_call 48; refine (HE.out _).mono ?_; rintro e w2 ⟨rfl, rfl⟩)
    go_ret
    rw [hs.out]
    exact ⟨⟨none, rfl, rfl, fun h => absurd h (by decide)⟩, e1 _⟩
  | false =>
    by_cases hc : c = 5
    · have hs : Hid (sl = [k]) := by unfold Hid; rw [HS.out, if_neg (by decide), if_pos hc]
      clear HS
      subst hc
      go_enter Tryz.func82, Tryz.ntmps82
      go_wp2_with (go_at_call 48; refine (HE.out _).mono ?_; rintro e w2 ⟨rfl, rfl⟩)
      go_ret
      rw [hs.out]
      exact ⟨⟨_, rfl, n1 _ _⟩, e2 _ _⟩
    · cases q with
      | false =>
        have hs : Hid (sl = [0]) := by unfold Hid; rw [HS.out, if_neg (by decide), if_neg hc, if_pos rfl]
        clear HS
        go_enter Tryz.func82, Tryz.ntmps82
        go_wp2_with (first | (go_at_call 48; refine (HE.out _).mono ?_; rintro e w2 ⟨rfl, rfl⟩) | (go_at_call 81; refine (HJ.out _).mono ?_; rintro e w2 ⟨rfl, rfl⟩))
        go_ret
        rw [hs.out]
        exact ⟨⟨_, rfl, n1 _ _⟩, e2 _ _⟩
      | true =>
        by_cases htf : t = f
        · have hs : Hid (sl = [t]) := by unfold Hid; rw [HS.out, if_neg (by decide), if_neg hc, if_neg (by decide), if_pos htf]
          clear HS
          subst htf
          go_enter Tryz.func82, Tryz.ntmps82
          go_wp2_with (first | (go_at_call 48; refine (HE.out _).mono ?_; rintro e w2 ⟨rfl, rfl⟩) | (go_at_call 81; refine (HJ.out _).mono ?_; rintro e w2 ⟨rfl, rfl⟩))
          go_ret
          rw [hs.out]
          exact ⟨⟨_, rfl, n1 _ _⟩, e2 _ _⟩
        · by_cases hl : t < f
          · have hs : Hid (sl = [t, f]) := by unfold Hid; rw [HS.out, if_neg (by decide), if_neg hc, if_neg (by decide), if_neg htf, if_pos hl]
            clear HS
            go_enter Tryz.func82, Tryz.ntmps82
            go_wp2_with (first | (go_at_call 48; refine (HE.out _).mono ?_; rintro e w2 ⟨rfl, rfl⟩) | (go_at_call 81; refine (HJ.out _).mono ?_; rintro e w2 ⟨rfl, rfl⟩))
            go_ret
            rw [hs.out]
            exact ⟨⟨_, rfl, n2 _ _ _⟩, e2 _ _⟩
          · have hs : Hid (sl = [f, t]) := by unfold Hid; rw [HS.out, if_neg (by decide), if_neg hc, if_neg (by decide), if_neg htf, if_neg hl]
            have hl2 : f < t := by omega
            clear HS
            go_enter Tryz.func82, Tryz.ntmps82
            go_wp2_with (first | (go_at_call 48; refine (HE.out _).mono ?_; rintro e w2 ⟨rfl, rfl⟩) | (go_at_call 81; refine (HJ.out _).mono ?_; rintro e w2 ⟨rfl, rfl⟩))
            go_ret
            rw [hs.out]
            exact ⟨⟨_, rfl, n2 _ _ _⟩, e2 _ _⟩

end Go.Proofs.YtpojlfenmanehaaGreat.V

namespace Go.Proofs.YtpojlfenmanehaaGreat.V
open Go.RowKit

theorem skips_bd (x : In) (hx : x.ok) : (skipsL x).length ≤ 2 ∧ ∀ s ∈ skipsL x, 0 ≤ s ∧ s ≤ 4294967295 := by
  obtain ⟨c, t, f, k⟩ := x
  unfold In.ok at hx
  dsimp only at hx
  unfold skipsL
  dsimp only
  repeat' split
  all_goals (refine ⟨by simp, ?_⟩; intro s hs; simp at hs; try omega)

/-- is one of the numbers too great? -/
def anyOut (l : List Int) (n : Nat) : Bool := l.any (fun s => !insB s n)

theorem anyOut_take (l : List Int) (n k : Nat) (hk : k < l.length) : anyOut (l.take (k + 1)) n = (anyOut (l.take k) n || !insB (l.getD k 0) n) := by
  have e1 : l.take (k + 1) = l.take k ++ [l[k]] := by rw [List.take_add_one, List.getElem?_eq_getElem hk]; rfl
  have e2 : l.getD k 0 = l[k] := by simp [hk]
  rw [e1, e2]
  unfold anyOut
  rw [List.any_append, List.any_cons, List.any_nil, Bool.or_false]

theorem anyOut_get (l : List Int) (n k : Nat) (hk : k < l.length) (h : insB (l.getD k 0) n = false) : anyOut l n = true := by
  have e2 : l.getD k 0 = l[k] := by simp [hk]
  unfold anyOut
  rw [List.any_eq_true]
  exact ⟨l[k], List.getElem_mem hk, by rw [← e2, h]; rfl⟩

set_option maxHeartbeats 800000 in
theorem out_any (x : In) (n : Nat) (w : World) (hx : x.ok) (hn : n ≤ 1000000) :
    Calls Tryz.prog 47 #[x.val, .int .i64 n] w fun e w' => e = .returned (.bool (outB x n)) ∧ Below w.heap.size w w' := by
  obtain ⟨hl2, hbd⟩ := skips_bd x hx
  have HJ : Hid (∀ W : World, Calls Tryz.prog 81 #[.int .u16 x.c] W fun e w' => e = .returned (.bool (jumpsB x.c)) ∧ w' = W) := fun W => jumps_any x.c W
  have HK : Hid (∀ W : World, Calls Tryz.prog 82 #[x.val] W fun e w' => SkipsTold W w' e (skipsL x)) := fun W => skips_any x W hx
  have HB : Hid (∀ s ∈ skipsL x, 0 ≤ s ∧ s ≤ 4294967295) := hbd
  have HO : Hid (outB x n = (jumpsB x.c && anyOut (skipsL x) n)) := rfl
  clear hbd hx
  generalize skipsL x = sl at *
  generalize outB x n = ob at *
  obtain ⟨c, t, f, k⟩ := x
  unfold In.val at *
  dsimp only at *
  generalize jumpsB c = q at *
  have e1 : ∀ o, Below w.heap.size w (w.alloc o) := fun o => (Below.refl _ _).alloc (Nat.le_refl _) _
  cases q with
  | false =>
    have ho : Hid (ob = false) := HO.out
    clear HO
    go_enter Tryz.func47, Tryz.ntmps47
    go_wp2_with (go_at_call 81; refine (HJ.out _).mono ?_; rintro e w2 ⟨rfl, rfl⟩)
    go_ret
    exact ⟨ret_bool ho.out.symm, e1 _⟩
  | true =>
    have ho : Hid (ob = anyOut sl n) := by unfold Hid; rw [HO.out, Bool.true_and]
    clear HO
    go_enter Tryz.func47, Tryz.ntmps47
    go_wp2_with (first | (go_at_call 81; refine (HJ.out _).mono ?_; rintro e w2 ⟨rfl, rfl⟩) | (go_at_call 82; refine (HK.out _).mono ?_; rintro e w3 ⟨⟨a3, rfl, n3⟩, b3⟩))
    have hb := (e1 _).trans (b3.mono (by rw [size_alloc']; omega))
    have hll := n3.1
    go_loop [14] (fun i => ∃ k : Nat, k ≤ sl.length ∧ i = .int .i64 k ∧ anyOut (sl.take k) n = false) (fun i => sl.length - (intOf i).toNat)
    case atStart => exact ⟨0, Nat.zero_le _, rfl, rfl⟩
    case round =>
      obtain ⟨k, hk, rfl, hno⟩ := hrel
      have HN : Hid (anyOut (sl.take k) n = false) := hno
      clear hno
      by_cases hlt : k < sl.length
      · obtain ⟨b, off, rfl, hc⟩ := n3.2 (by omega)
        have hck := hc k hlt
        clear hc
        have hs := HB.out (sl.getD k 0) (by simp [hlt])
        have HT : Hid (anyOut (sl.take (k + 1)) n = (anyOut (sl.take k) n || !insB (sl.getD k 0) n)) := anyOut_take sl n k hlt
        have HG : Hid (insB (sl.getD k 0) n = false → anyOut sl n = true) := anyOut_get sl n k hlt
        have HW : Hid (∀ W : World, Calls Tryz.prog 83 #[.int .u32 (sl.getD k 0), .int .i64 n] W fun e w' => e = .returned (.bool (insB (sl.getD k 0) n)) ∧ w' = W) := fun W => within_any (sl.getD k 0) n W hs.1 hs.2 hn
        clear hs
        generalize insB (sl.getD k 0) n = ib at *
        generalize sl.getD k 0 = s at *
        cases ib with
        | true =>
          go_wp2_with (go_at_call 83; refine (HW.out _).mono ?_; rintro e w5 ⟨rfl, rfl⟩)
          go_round
          case rel => exact ⟨k + 1, by omega, by go_num, by rw [HT.out, HN.out]; rfl⟩
          case measure => simp [intOf]; omega
        | false =>
          have HG2 : Hid (anyOut sl n = true) := HG.out rfl
          go_wp2_with (go_at_call 83; refine (HW.out _).mono ?_; rintro e w5 ⟨rfl, rfl⟩)
          go_ret
          exact ⟨ret_bool (by rw [ho.out, HG2.out]), hb⟩
      · have HN2 : Hid (anyOut sl n = false) := by have := HN.out; rw [List.take_of_length_le (by omega)] at this; exact this
        clear n3
        go_wp2
        go_ret
        exact ⟨ret_bool (by rw [ho.out, HN2.out]), hb⟩

end Go.Proofs.YtpojlfenmanehaaGreat.V

namespace Go.Proofs.YtpojlfenmanehaaGreat.V
open Go.RowKit

theorem ff_at (l : List In) (k n : Nat) (hk : k < l.length) (hn : n = l.length - 1 - k) (p : Int) : ff (l.drop k) p = if fault l[k] n = 0 then ff (l.drop (k + 1)) (p + 1) else (fault l[k] n, p) := by
  subst hn
  exact ff_drop_succ l k hk p

theorem In.at.below {x : In} {w w' : World} {b o : Nat} (h : x.at w b o) (hb : Below w.heap.size w w') : x.at w' b o := by
  obtain ⟨h1, h2, h3, h4⟩ := h
  have hlt : b < w.heap.size := World.block_lt_of_cell? w _ h1
  refine ⟨?_, ?_, ?_, ?_⟩
  · rw [hb.cell (p := ⟨b, o, none⟩) hlt]; exact h1
  · rw [hb.cell (p := ⟨b, o + 1, none⟩) hlt]; exact h2
  · rw [hb.cell (p := ⟨b, o + 2, none⟩) hlt]; exact h3
  · rw [hb.cell (p := ⟨b, o + 3, none⟩) hlt]; exact h4

theorem In.at.four {c t f k : Int} {w : World} {b : Nat} (h : In.at ⟨c, t, f, k⟩ w b 0) : w.cell? ⟨b, 0, none⟩ = some (.int .u16 c) ∧ w.cell? ⟨b, 1, none⟩ = some (.int .u8 t) ∧ w.cell? ⟨b, 2, none⟩ = some (.int .u8 f) ∧ w.cell? ⟨b, 3, none⟩ = some (.int .u32 k) := h

theorem at_new (w : World) (x : In) : x.at (w.alloc (Obj.cells #[.int .u16 x.c, .int .u8 x.t, .int .u8 x.f, .int .u32 x.k] 78)) w.heap.size 0 := by
  refine ⟨?_, ?_, ?_, ?_⟩ <;> simp

theorem ret_pair {a b c d : Int} (h : (a, b) = (c, d)) : Ending.returned (.tuple #[.int .i64 a, .int .i64 b]) = .returned (.tuple #[.int .i64 c, .int .i64 d]) := by
  cases h; rfl

set_option maxHeartbeats 4000000 in
theorem first_any (a : Option Addr) (len cap : Nat) (ins : List In) (w : World) (hlen : len ≤ 100000) (h : Ins w a len ins) :
    Calls Tryz.prog 26 #[.slice a len cap] w fun e w' => e = .returned (.tuple #[.int .i64 (ff ins 0).1, .int .i64 (ff ins 0).2]) ∧ Below w.heap.size w w' := by
  have hll := h.1
  have HF : Hid (∀ p, ff [] p = (0, -1)) := fun _ => rfl
  generalize hz : ff ins 0 = z
  obtain ⟨z1, z2⟩ := z
  have HZ : Hid (ff ins 0 = (z1, z2)) := hz
  clear hz
  dsimp only
  go_enter Tryz.func26, Tryz.ntmps26
  go_wp2
  go_step3
  go_wp2
  go_step3
  go_wp2
  go_loopw [2, 3, 10] (fun r2 r3 i wr => ∃ k : Nat, k ≤ len ∧ i = .int .i64 k ∧ ff (ins.drop k) k = (z1, z2) ∧ Below w.heap.size w wr) (fun _ _ i _ => len - (intOf i).toNat)
  case atStart => exact ⟨0, Nat.zero_le _, rfl, HZ.out, Below.refl _ _⟩
  case round =>
    obtain ⟨k, hk, rfl, hst, hbr⟩ := hrel
    by_cases hlt : k < len
    · have hir := h.below hbr
      obtain ⟨b, off, rfl, hc⟩ := hir.2.2 (by omega)
      obtain ⟨q1, q2, q3, q4⟩ := hc k ins[k] (List.getElem?_eq_getElem (by omega))
      have HO : Hid (ins[k].ok) := hir.2.1 ins[k] (List.getElem_mem (by omega))
      have HS : Hid (ff (ins.drop k) k = if fault ins[k] (len - 1 - k) = 0 then ff (ins.drop (k + 1)) (k + 1 : Nat) else (fault ins[k] (len - 1 - k), k)) := by
        exact ff_at ins k (len - 1 - k) (by omega) (by omega) k
      have HT : Hid (ff (ins.drop k) k = (z1, z2)) := hst
      clear hc hir h hst
      generalize ins[k] = x at *
      have hbh : (len : Int) - 1 - k = ((len - 1 - k : Nat) : Int) := by omega
      have HK : Hid (∀ W : World, Calls Tryz.prog 44 #[.int .u16 x.c] W fun e w' => e = .returned (.bool (knownB x.c)) ∧ Below W.heap.size W w') := fun W => known_any x.c W
      have HL : Hid (∀ W : World, Calls Tryz.prog 45 #[x.val] W fun e w' => e = .returned (.bool (loadsB x.c x.k)) ∧ Below W.heap.size W w') := fun W => loads_any x W HO.out
      have HR : Hid (∀ W : World, Calls Tryz.prog 46 #[x.val] W fun e w' => e = .returned (.bool (reckB x.c x.k)) ∧ Below W.heap.size W w') := fun W => reck_any x W HO.out
      have HU : Hid (∀ W : World, Calls Tryz.prog 47 #[x.val, .int .i64 ((len - 1 - k : Nat) : Int)] W fun e w' => e = .returned (.bool (outB x (len - 1 - k))) ∧ Below W.heap.size W w') := fun W => out_any x (len - 1 - k) W HO.out (by omega)
      have HE : Hid (∀ W : World, Calls Tryz.prog 48 #[.int .u16 x.c] W fun e w' => e = .returned (.bool (isIn endL x.c)) ∧ w' = W) := fun W => ends_any x.c W
      have HF : Hid (fault x (len - 1 - k) = if knownB x.c = false then 11 else if loadsB x.c x.k = true then 12 else if reckB x.c x.k = true then 13 else if outB x (len - 1 - k) = true then 14 else if len - 1 - k = 0 ∧ isIn endL x.c = false then 15 else 0) := rfl
      clear HO
      generalize outB x (len - 1 - k) = bo at *
      generalize fault x (len - 1 - k) = fx at *
      obtain ⟨xc, xt, xf, xk⟩ := x
      unfold In.val at *
      dsimp only at *
      generalize knownB xc = bk at *
      generalize loadsB xc xk = bl at *
      generalize reckB xc xk = br at *
      generalize isIn endL xc = be at *
      generalize len - 1 - k = nn at *
      have B0 := hbr.alloc hbr.size (Obj.cells #[.int .u16 xc, .int .u8 xt, .int .u8 xf, .int .u32 xk] 78)
      have A0 : In.at ⟨xc, xt, xf, xk⟩ (wr.alloc (Obj.cells #[.int .u16 xc, .int .u8 xt, .int .u8 xf, .int .u32 xk] 78)) wr.heap.size 0 := at_new wr ⟨xc, xt, xf, xk⟩
      have hi1 : (k : Int) < (len : Int) := by omega
      cases bk with
      | false =>
        have hf : fx = 11 := HF.out
        have HZ2 : Hid ((11, (k : Int)) = (z1, z2)) := by have := HS.out; rw [hf, if_neg (by decide)] at this; exact this.symm.trans HT.out
        clear HF HS HT HZ hf
        go_wp2_with (first | (go_at_call 44; refine (HK.out _).mono ?_; rintro e w1 ⟨rfl, b1⟩; have B1 := B0.trans (b1.mono B0.size); have A1 := A0.below b1; obtain ⟨p1, r1, s1, t1⟩ := A1.four) | (go_at_call 45; refine (HL.out _).mono ?_; rintro e w2 ⟨rfl, b2⟩; have B2 := B1.trans (b2.mono B1.size); have A2 := A1.below b2; obtain ⟨p2, r2, s2, t2⟩ := A2.four) | (go_at_call 46; refine (HR.out _).mono ?_; rintro e w3 ⟨rfl, b3⟩; have B3 := B2.trans (b3.mono B2.size); have A3 := A2.below b3; obtain ⟨p3, r3, s3, t3⟩ := A3.four) | (go_at_call 47; refine (HU.out _).mono ?_; rintro e w4 ⟨rfl, b4⟩; have B4 := B3.trans (b4.mono B3.size); have A4 := A3.below b4; obtain ⟨p4, r4, s4, t4⟩ := A4.four) | (go_at_call 48; refine (HE.out _).mono ?_; rintro e w5 ⟨rfl, rfl⟩))
        rw [Exit.noGoto_ret]
        go_ret2
        exact ⟨ret_pair HZ2.out, B1⟩
      | true =>
        cases bl with
        | true =>
          have hf : fx = 12 := HF.out
          have HZ2 : Hid ((12, (k : Int)) = (z1, z2)) := by have := HS.out; rw [hf, if_neg (by decide)] at this; exact this.symm.trans HT.out
          clear HF HS HT HZ hf
          go_wp2_with (first | (go_at_call 44; refine (HK.out _).mono ?_; rintro e w1 ⟨rfl, b1⟩; have B1 := B0.trans (b1.mono B0.size); have A1 := A0.below b1; obtain ⟨p1, r1, s1, t1⟩ := A1.four) | (go_at_call 45; refine (HL.out _).mono ?_; rintro e w2 ⟨rfl, b2⟩; have B2 := B1.trans (b2.mono B1.size); have A2 := A1.below b2; obtain ⟨p2, r2, s2, t2⟩ := A2.four) | (go_at_call 46; refine (HR.out _).mono ?_; rintro e w3 ⟨rfl, b3⟩; have B3 := B2.trans (b3.mono B2.size); have A3 := A2.below b3; obtain ⟨p3, r3, s3, t3⟩ := A3.four) | (go_at_call 47; refine (HU.out _).mono ?_; rintro e w4 ⟨rfl, b4⟩; have B4 := B3.trans (b4.mono B3.size); have A4 := A3.below b4; obtain ⟨p4, r4, s4, t4⟩ := A4.four) | (go_at_call 48; refine (HE.out _).mono ?_; rintro e w5 ⟨rfl, rfl⟩))
          rw [Exit.noGoto_ret]
          go_ret2
          exact ⟨ret_pair HZ2.out, B2⟩
        | false =>
          cases br with
          | true =>
            have hf : fx = 13 := HF.out
            have HZ2 : Hid ((13, (k : Int)) = (z1, z2)) := by have := HS.out; rw [hf, if_neg (by decide)] at this; exact this.symm.trans HT.out
            clear HF HS HT HZ hf
            go_wp2_with (first | (go_at_call 44; refine (HK.out _).mono ?_; rintro e w1 ⟨rfl, b1⟩; have B1 := B0.trans (b1.mono B0.size); have A1 := A0.below b1; obtain ⟨p1, r1, s1, t1⟩ := A1.four) | (go_at_call 45; refine (HL.out _).mono ?_; rintro e w2 ⟨rfl, b2⟩; have B2 := B1.trans (b2.mono B1.size); have A2 := A1.below b2; obtain ⟨p2, r2, s2, t2⟩ := A2.four) | (go_at_call 46; refine (HR.out _).mono ?_; rintro e w3 ⟨rfl, b3⟩; have B3 := B2.trans (b3.mono B2.size); have A3 := A2.below b3; obtain ⟨p3, r3, s3, t3⟩ := A3.four) | (go_at_call 47; refine (HU.out _).mono ?_; rintro e w4 ⟨rfl, b4⟩; have B4 := B3.trans (b4.mono B3.size); have A4 := A3.below b4; obtain ⟨p4, r4, s4, t4⟩ := A4.four) | (go_at_call 48; refine (HE.out _).mono ?_; rintro e w5 ⟨rfl, rfl⟩))
            rw [Exit.noGoto_ret]
            go_ret2
            exact ⟨ret_pair HZ2.out, B3⟩
          | false =>
            cases bo with
            | true =>
              have hf : fx = 14 := HF.out
              have HZ2 : Hid ((14, (k : Int)) = (z1, z2)) := by have := HS.out; rw [hf, if_neg (by decide)] at this; exact this.symm.trans HT.out
              clear HF HS HT HZ hf
              go_wp2_with (first | (go_at_call 44; refine (HK.out _).mono ?_; rintro e w1 ⟨rfl, b1⟩; have B1 := B0.trans (b1.mono B0.size); have A1 := A0.below b1; obtain ⟨p1, r1, s1, t1⟩ := A1.four) | (go_at_call 45; refine (HL.out _).mono ?_; rintro e w2 ⟨rfl, b2⟩; have B2 := B1.trans (b2.mono B1.size); have A2 := A1.below b2; obtain ⟨p2, r2, s2, t2⟩ := A2.four) | (go_at_call 46; refine (HR.out _).mono ?_; rintro e w3 ⟨rfl, b3⟩; have B3 := B2.trans (b3.mono B2.size); have A3 := A2.below b3; obtain ⟨p3, r3, s3, t3⟩ := A3.four) | (go_at_call 47; refine (HU.out _).mono ?_; rintro e w4 ⟨rfl, b4⟩; have B4 := B3.trans (b4.mono B3.size); have A4 := A3.below b4; obtain ⟨p4, r4, s4, t4⟩ := A4.four) | (go_at_call 48; refine (HE.out _).mono ?_; rintro e w5 ⟨rfl, rfl⟩))
              rw [Exit.noGoto_ret]
              go_ret2
              exact ⟨ret_pair HZ2.out, B4⟩
            | false =>
              by_cases hn0 : nn = 0
              · have hnz : ((nn : Int) == 0) = true := by rw [hn0]; rfl
                cases be with
                | false =>
                  have hf : fx = 15 := by rw [HF.out]; simp [hn0]
                  have HZ2 : Hid ((15, (k : Int)) = (z1, z2)) := by have := HS.out; rw [hf, if_neg (by decide)] at this; exact this.symm.trans HT.out
                  clear HF HS HT HZ hf hn0
                  go_wp2_with (first | (go_at_call 44; refine (HK.out _).mono ?_; rintro e w1 ⟨rfl, b1⟩; have B1 := B0.trans (b1.mono B0.size); have A1 := A0.below b1; obtain ⟨p1, r1, s1, t1⟩ := A1.four) | (go_at_call 45; refine (HL.out _).mono ?_; rintro e w2 ⟨rfl, b2⟩; have B2 := B1.trans (b2.mono B1.size); have A2 := A1.below b2; obtain ⟨p2, r2, s2, t2⟩ := A2.four) | (go_at_call 46; refine (HR.out _).mono ?_; rintro e w3 ⟨rfl, b3⟩; have B3 := B2.trans (b3.mono B2.size); have A3 := A2.below b3; obtain ⟨p3, r3, s3, t3⟩ := A3.four) | (go_at_call 47; refine (HU.out _).mono ?_; rintro e w4 ⟨rfl, b4⟩; have B4 := B3.trans (b4.mono B3.size); have A4 := A3.below b4; obtain ⟨p4, r4, s4, t4⟩ := A4.four) | (go_at_call 48; refine (HE.out _).mono ?_; rintro e w5 ⟨rfl, rfl⟩))
                  rw [Exit.noGoto_ret]
                  go_ret2
                  exact ⟨ret_pair HZ2.out, B4⟩
                | true =>
                  have hf : fx = 0 := by rw [HF.out]; simp
                  have HZ2 : Hid (ff (ins.drop (k + 1)) (k + 1 : Nat) = (z1, z2)) := by have := HS.out; rw [hf, if_pos rfl] at this; exact this.symm.trans HT.out
                  clear HF HS HT HZ hf hn0
                  go_wp2_with (first | (go_at_call 44; refine (HK.out _).mono ?_; rintro e w1 ⟨rfl, b1⟩; have B1 := B0.trans (b1.mono B0.size); have A1 := A0.below b1; obtain ⟨p1, r1, s1, t1⟩ := A1.four) | (go_at_call 45; refine (HL.out _).mono ?_; rintro e w2 ⟨rfl, b2⟩; have B2 := B1.trans (b2.mono B1.size); have A2 := A1.below b2; obtain ⟨p2, r2, s2, t2⟩ := A2.four) | (go_at_call 46; refine (HR.out _).mono ?_; rintro e w3 ⟨rfl, b3⟩; have B3 := B2.trans (b3.mono B2.size); have A3 := A2.below b3; obtain ⟨p3, r3, s3, t3⟩ := A3.four) | (go_at_call 47; refine (HU.out _).mono ?_; rintro e w4 ⟨rfl, b4⟩; have B4 := B3.trans (b4.mono B3.size); have A4 := A3.below b4; obtain ⟨p4, r4, s4, t4⟩ := A4.four) | (go_at_call 48; refine (HE.out _).mono ?_; rintro e w5 ⟨rfl, rfl⟩))
                  go_roundw
                  case rel => exact ⟨k + 1, by omega, by go_num, HZ2.out, B4⟩
                  case measure => simp [intOf]; omega
              · have hnz : ((nn : Int) == 0) = false := by rw [beq_eq_false_iff_ne]; omega
                have hf : fx = 0 := by rw [HF.out]; simp [hn0]
                have HZ2 : Hid (ff (ins.drop (k + 1)) (k + 1 : Nat) = (z1, z2)) := by have := HS.out; rw [hf, if_pos rfl] at this; exact this.symm.trans HT.out
                clear HF HS HT HZ hf hn0
                go_wp2_with (first | (go_at_call 44; refine (HK.out _).mono ?_; rintro e w1 ⟨rfl, b1⟩; have B1 := B0.trans (b1.mono B0.size); have A1 := A0.below b1; obtain ⟨p1, r1, s1, t1⟩ := A1.four) | (go_at_call 45; refine (HL.out _).mono ?_; rintro e w2 ⟨rfl, b2⟩; have B2 := B1.trans (b2.mono B1.size); have A2 := A1.below b2; obtain ⟨p2, r2, s2, t2⟩ := A2.four) | (go_at_call 46; refine (HR.out _).mono ?_; rintro e w3 ⟨rfl, b3⟩; have B3 := B2.trans (b3.mono B2.size); have A3 := A2.below b3; obtain ⟨p3, r3, s3, t3⟩ := A3.four) | (go_at_call 47; refine (HU.out _).mono ?_; rintro e w4 ⟨rfl, b4⟩; have B4 := B3.trans (b4.mono B3.size); have A4 := A3.below b4; obtain ⟨p4, r4, s4, t4⟩ := A4.four) | (go_at_call 48; refine (HE.out _).mono ?_; rintro e w5 ⟨rfl, rfl⟩))
                go_roundw
                case rel => exact ⟨k + 1, by omega, by go_num, HZ2.out, B4⟩
                case measure => simp [intOf]; omega
    · have HN : Hid ((0, -1) = (z1, z2)) := by rw [List.drop_eq_nil_of_le (by omega)] at hst; exact hst
      clear hst
      go_wp2
      rw [Exit.noGoto_ret]
      go_ret2
      exact ⟨ret_pair HN.out, hbr⟩

end Go.Proofs.YtpojlfenmanehaaGreat.V

namespace Go.Proofs.YtpojlfenmanehaaGreat.V
open Go.RowKit

/-- what Check and the document's Check tell. -/
def Told (w w' : World) (e : Ending) (p : Int × Int) : Prop := e = .returned (.tuple #[.int .i64 p.1, .int .i64 p.2]) ∧ Below w.heap.size w w'

set_option maxHeartbeats 400000 in
theorem check_any (a : Option Addr) (len cap : Nat) (ins : List In) (w : World) (hlen : len ≤ maxLen) (h : Ins w a len ins) :
    Calls Tryz.prog 14 #[.slice a len cap] w fun e w' => Told w w' e (chk ins) := by
  have hll := h.1
  unfold maxLen at hlen
  by_cases h0 : len = 0
  · have hc : Hid (chk ins = (10, 0)) := by unfold Hid chk; rw [if_pos (by omega)]
    subst h0
    generalize chk ins = p at *
    clear h hll
    go_enter Tryz.func14, Tryz.ntmps14
    go_wp2
    go_ret2
    rw [hc.out]
    exact ⟨rfl, Below.refl _ _⟩
  · by_cases h4 : 4096 < len
    · have hc : Hid (chk ins = (4, 4096)) := by unfold Hid chk; rw [if_neg (by omega), if_pos (by omega)]
      generalize chk ins = p at *
      clear h hll
      have hz : ¬ (len : Int) = 0 := by omega
      have hd : decide ((4096 : Int) < (len : Int)) = true := by simp; omega
      go_enter Tryz.func14, Tryz.ntmps14
      go_wp2
      go_ret2
      rw [hc.out]
      exact ⟨rfl, Below.refl _ _⟩
    · have hc : Hid (chk ins = ff ins 0) := by unfold Hid chk; rw [if_neg (by omega), if_neg (by omega)]
      have HF : Hid (∀ W : World, W = w → Calls Tryz.prog 26 #[.slice a len cap] W fun e w' => e = .returned (.tuple #[.int .i64 (ff ins 0).1, .int .i64 (ff ins 0).2]) ∧ Below W.heap.size W w') := fun W e => e ▸ first_any a len cap ins w (by omega) h
      generalize chk ins = p at *
      generalize ff ins 0 = q at *
      clear h hll
      have hz : ¬ (len : Int) = 0 := by omega
      have hd : decide ((4096 : Int) < (len : Int)) = false := by simp; omega
      go_enter Tryz.func14, Tryz.ntmps14
      go_wp2_with (go_at_call 26; refine (HF.out _ rfl).mono ?_; rintro e w1 ⟨rfl, b1⟩)
      go_ret2
      rw [hc.out]
      exact ⟨rfl, b1⟩

end Go.Proofs.YtpojlfenmanehaaGreat.V

namespace Go.Proofs.YtpojlfenmanehaaGreat.V

/-- the places to which the instruction at i may go on, of those that are left. -/
def goOn (i : Nat) (n : Nat) (l : List Int) : List Int := (l.filter (fun s => insB s n)).map (fun s => (i : Int) + 1 + s)

theorem goOn_snoc (i n : Nat) (l : List Int) (s : Int) : goOn i n (l ++ [s]) = goOn i n l ++ (if insB s n = true then [(i : Int) + 1 + s] else []) := by
  unfold goOn
  rw [List.filter_append, List.map_append]
  by_cases h : insB s n = true
  · rw [if_pos h]; simp [h]
  · rw [if_neg h]; simp [h]

theorem goOn_take (i n : Nat) (l : List Int) (k : Nat) (hk : k < l.length) : goOn i n (l.take (k + 1)) = goOn i n (l.take k) ++ (if insB (l.getD k 0) n = true then [(i : Int) + 1 + l.getD k 0] else []) := by
  have e1 : l.take (k + 1) = l.take k ++ [l[k]] := by rw [List.take_add_one, List.getElem?_eq_getElem hk]; rfl
  have e2 : l.getD k 0 = l[k] := by simp [hk]
  rw [e1, e2, goOn_snoc]

theorem goOn_len (i n : Nat) (l : List Int) : (goOn i n l).length ≤ l.length := by
  unfold goOn
  rw [List.length_map]
  exact List.length_filter_le _ _

/-- does the instruction lead so far on, by the document's own words? -/
def leads (x : In) (far : Int) : Bool :=
  if x.c = 5 then far == x.k else if isIn jumpL x.c = true then (far == x.t || far == x.f) else if isIn endL x.c = true then false else far == 0

/-- the document's list: of all that are left, up to a bound, those that are led to. -/
def led (x : In) (i : Nat) : Nat → List Int
  | 0 => []
  | m + 1 => led x i m ++ (if leads x m = true then [(i : Int) + 1 + m] else [])

theorem led_len (x : In) (i m : Nat) : (led x i m).length ≤ m := by
  induction m with
  | zero => exact Nat.le_refl _
  | succ m ih =>
    unfold led
    rw [List.length_append]
    split <;> simp <;> omega

theorem goOn_zero (i : Nat) (l : List Int) (h : ∀ s ∈ l, 0 ≤ s) : goOn i 0 l = [] := by
  unfold goOn
  rw [List.filter_eq_nil_iff.2]
  · rfl
  · intro s hs
    have := h s hs
    unfold insB
    simp
    omega

theorem one_led (i m : Nat) (a : Int) : goOn i (m + 1) [a] = goOn i m [a] ++ (if ((m : Int) == a) = true then [(i : Int) + 1 + m] else []) := by
  unfold goOn insB
  by_cases h1 : a < (m : Int)
  · have h3 : ¬ (m : Int) = a := by omega
    simp [h1, h3]
    omega
  · by_cases h3 : (m : Int) = a
    · subst h3
      simp
      omega
    · simp [h1, h3]
      omega

theorem two_led (i m : Nat) (a b : Int) (hab : a < b) : goOn i (m + 1) [a, b] = goOn i m [a, b] ++ (if ((m : Int) == a || (m : Int) == b) = true then [(i : Int) + 1 + m] else []) := by
  have c : ∀ n, goOn i n [a, b] = goOn i n [a] ++ goOn i n [b] := by
    intro n
    unfold goOn
    rw [show [a, b] = [a] ++ [b] from rfl, List.filter_append, List.map_append]
  rw [c, c, one_led, one_led]
  by_cases h1 : (m : Int) = a
  · subst h1
    have e : goOn i m [b] = [] := by
      unfold goOn insB
      have : ¬ b < (m : Int) := by omega
      simp [this]
    have h2 : ¬ (m : Int) = b := by omega
    simp [e, h2]
  · simp [h1]

theorem skips_led (x : In) (hx : x.ok) (i m : Nat) : goOn i (m + 1) (skipsL x) = goOn i m (skipsL x) ++ (if leads x m = true then [(i : Int) + 1 + m] else []) := by
  obtain ⟨-, k2, k3, -⟩ := known_same x.c hx.1.1 hx.1.2
  unfold skipsL leads
  rw [← k2]
  by_cases h5 : x.c = 5
  · have he : isIn endL x.c = false := by rw [h5]; rfl
    rw [he, if_pos h5, if_neg (by decide), if_pos h5]
    exact one_led i m x.k
  · rw [if_neg h5, if_neg h5]
    by_cases hj : jumpsB x.c = true
    · have he : isIn endL x.c = false := by rw [hj, Bool.true_and] at k3; exact k3
      rw [he, hj, if_neg (by decide), if_neg (by decide), if_pos rfl]
      by_cases htf : x.t = x.f
      · rw [if_pos htf, htf, Bool.or_self]
        exact one_led i m x.f
      · rw [if_neg htf]
        by_cases hl : x.t < x.f
        · rw [if_pos hl]; exact two_led i m _ _ hl
        · rw [if_neg hl, Bool.or_comm]; exact two_led i m _ _ (by omega)
    · rw [Bool.not_eq_true] at hj
      rw [hj, if_neg (show ¬ false = true by decide)]
      by_cases he : isIn endL x.c = true
      · rw [if_pos he, if_pos he]; rfl
      · rw [if_neg he, if_neg he, if_pos rfl]
        exact one_led i m 0

theorem led_same (x : In) (hx : x.ok) (i m : Nat) : led x i m = goOn i m (skipsL x) := by
  induction m with
  | zero => rw [goOn_zero i _ (fun s hs => ((skips_bd x hx).2 s hs).1)]; rfl
  | succ m ih => rw [skips_led x hx, ← ih]; rfl

/-- what P5.3 says of where an instruction goes on. -/
structure Ahead (i len : Nat) (ends : Bool) (l : List Int) : Prop where
  few : l.length ≤ 2
  none : decide (l.length = 0) = ends
  ahead : ∀ k, k < l.length → (i : Int) < l.getD k 0 ∧ l.getD k 0 < len
  rise : ∀ k, 0 < k → k < l.length → l.getD (k - 1) 0 < l.getD k 0

theorem ahead_nil (i len : Nat) : Ahead i len true [] :=
  ⟨by decide, rfl, fun k h => absurd h (Nat.not_lt_zero k), fun k _ h => absurd h (Nat.not_lt_zero k)⟩

theorem ahead_one (i len : Nat) (a : Int) (h1 : (i : Int) < a) (h2 : a < len) : Ahead i len false [a] := by
  refine ⟨by simp, rfl, fun k h => ?_, fun k h0 h => ?_⟩
  · match k, h with
    | 0, _ => exact ⟨h1, h2⟩
  · simp at h; omega

theorem ahead_two (i len : Nat) (a b : Int) (h1 : (i : Int) < a) (hab : a < b) (h2 : b < len) : Ahead i len false [a, b] := by
  refine ⟨by simp, rfl, fun k h => ?_, fun k h0 h => ?_⟩
  · match k, h with
    | 0, _ => exact ⟨h1, by show a < (len : Int); omega⟩
    | 1, _ => exact ⟨by show (i : Int) < b; omega, h2⟩
  · match k, h0, h with
    | 1, _, _ => exact hab

theorem goOn_all (i n : Nat) (l : List Int) (h : anyOut l n = false) : goOn i n l = l.map (fun s => (i : Int) + 1 + s) := by
  unfold goOn
  rw [List.filter_eq_self.2]
  intro s hs
  unfold anyOut at h
  rw [List.any_eq_false] at h
  simpa using h s hs

theorem goOn_ahead (x : In) (hx : x.ok) (i len : Nat) (hi : i < len) (hf : fault x (len - 1 - i) = 0) : Ahead i len (isIn endL x.c) (goOn i (len - 1 - i) (skipsL x)) := by
  obtain ⟨-, -, k3, -⟩ := known_same x.c hx.1.1 hx.1.2
  have hout : outB x (len - 1 - i) = false := by
    unfold fault at hf
    repeat' split at hf
    all_goals first | (exact absurd hf (by decide)) | (simpa using ‹¬ outB x _ = true›)
  have hend : ¬ (len - 1 - i = 0 ∧ isIn endL x.c = false) := by
    unfold fault at hf
    repeat' split at hf
    all_goals first | (exact absurd hf (by decide)) | assumption
  obtain ⟨⟨c1, c2⟩, ⟨t1, t2⟩, ⟨f1, f2⟩, ⟨m1, m2⟩⟩ := hx
  by_cases hj : jumpsB x.c = true
  · have he : isIn endL x.c = false := by rw [hj, Bool.true_and] at k3; exact k3
    have ha : anyOut (skipsL x) (len - 1 - i) = false := by unfold outB at hout; rw [hj, Bool.true_and] at hout; exact hout
    rw [goOn_all i _ _ ha, he]
    unfold anyOut at ha
    rw [List.any_eq_false] at ha
    have hb : ∀ s ∈ skipsL x, s < ((len - 1 - i : Nat) : Int) := by
      intro s hs
      have := ha s hs
      unfold insB at this
      simpa using this
    clear ha
    unfold skipsL at hb ⊢
    rw [he, hj, if_neg (show ¬ false = true by decide), if_neg (show ¬ true = false by decide)] at *
    by_cases h5 : x.c = 5
    · rw [if_pos h5] at *
      have := hb x.k (by simp)
      exact ahead_one _ _ ((i : Int) + 1 + x.k) (by omega) (by omega)
    · rw [if_neg h5] at *
      by_cases htf : x.t = x.f
      · rw [if_pos htf] at *
        have := hb x.t (by simp)
        exact ahead_one _ _ ((i : Int) + 1 + x.t) (by omega) (by omega)
      · rw [if_neg htf] at *
        by_cases hl : x.t < x.f
        · rw [if_pos hl] at *
          have := hb x.f (by simp)
          exact ahead_two _ _ ((i : Int) + 1 + x.t) ((i : Int) + 1 + x.f) (by omega) (by omega) (by omega)
        · rw [if_neg hl] at *
          have := hb x.t (by simp)
          exact ahead_two _ _ ((i : Int) + 1 + x.f) ((i : Int) + 1 + x.t) (by omega) (by omega) (by omega)
  · rw [Bool.not_eq_true] at hj
    unfold skipsL
    have h5 : ¬ x.c = 5 := by intro e; rw [e] at hj; exact absurd hj (by unfold jumpsB; simp)
    by_cases he : isIn endL x.c = true
    · rw [he, if_pos rfl]
      exact ahead_nil _ _
    · rw [Bool.not_eq_true] at he
      have hn : ¬ len - 1 - i = 0 := fun e => hend ⟨e, he⟩
      rw [he, hj, if_neg (by decide), if_neg h5, if_pos rfl, goOn_all]
      · exact ahead_one _ _ ((i : Int) + 1 + 0) (by omega) (by omega)
      · unfold anyOut insB
        simp
        omega

end Go.Proofs.YtpojlfenmanehaaGreat.V

namespace Go.Proofs.YtpojlfenmanehaaGreat.V
open Go.RowKit

/-- a list of places that was told, as memory of its own. -/
def NextTold (w w' : World) (e : Ending) (l : List Int) : Prop := Below w.heap.size w w' ∧ ∃ v, e = .returned v ∧ w'.ownsRow w.heap.size 3 1 v l.length (cellsN l)

theorem new_int (w : World) (z : Int) : (w.alloc (.cells #[.int .i64 z] 3)).cell? ⟨w.heap.size, 0, none⟩ = some (.int .i64 z) := by simp

end Go.Proofs.YtpojlfenmanehaaGreat.V

