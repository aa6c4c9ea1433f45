/-
  Bytes and instructions as they lie in memory; rows of them that a call makes and appends to.
-/
import Derived.Test.YtonhkohfogpflaaMath
import Derived.WalkKit
import Derived.WalkSpells
import Derived.WalkLawsBesides
import Derived.Laws.AppendOwnNone
import Derived.Laws.MakeOwn
import Derived.Laws.BytesArg
namespace Go.Proofs.Ytonhkohfogpflaa
open Go.RowKit

theorem Try.info5 : (Try.prog.info? 5).map (fun i => (i.zero, i.size, i.bytes)) = some (some (.int .u8 0), 1, 1) := by kernel_rfl
theorem Try.info27 : (Try.prog.info? 27).map (fun i => (i.zero, i.size, i.bytes)) = some (some (.agg #[.int .u16 0, .int .u8 0, .int .u8 0, .int .u32 0]), 4, 8) := by kernel_rfl

theorem ret_int {k : IntKind} {a b : Int} (h : a = b) : Ending.returned (.int k a) = .returned (.int k b) := by rw [h]
theorem ret_bool {a b : Bool} (h : a = b) : Ending.returned (.bool a) = .returned (.bool b) := by rw [h]

/-- the bytes that a slice leads to. -/
def Bs (w : World) (a : Option Addr) (len : Nat) (l : List Int) : Prop :=
  l.length = len ∧ Byt l ∧
  (0 < len → ∃ b off, a = some ⟨b, off, none⟩ ∧ ∀ i, i < len → w.cell? ⟨b, off + i, none⟩ = some (.int .u8 (l.getD i 0)))

/-- bytes as cells. -/
def cellsB (l : List Int) : List Value := l.map (Value.int .u8)

theorem cellsB_app (l m : List Int) : cellsB (l ++ m) = cellsB l ++ cellsB m := by simp [cellsB]

theorem owns_block {w : World} {base sz : Nat} {t : TypeId} {v : Value} {n : Nat} {xs : List Value} (h : w.ownsRow base t sz v n xs) : ∀ k, v.ownBlock = some k → base ≤ k := by
  intro k hk
  rcases h.2 with ⟨rfl, rfl⟩ | ⟨g, cap, cur, rfl, hb, _⟩
  · cases hk
  · cases hk; exact hb

theorem owns_lower {w : World} {B B' sz : Nat} {t : TypeId} {v : Value} {n : Nat} {xs : List Value} (h : w.ownsRow B t sz v n xs) (hB : B' ≤ B) : w.ownsRow B' t sz v n xs := by
  refine ⟨h.1, ?_⟩
  rcases h.2 with hn | ⟨g, cap, cur, hv, hg, r⟩
  · exact .inl hn
  · exact .inr ⟨g, cap, cur, hv, Nat.le_trans hB hg, r⟩

theorem owns_nil (w : World) (base : Nat) : w.ownsRow base 5 1 (.slice none 0 0) 0 (cellsB []) := ⟨rfl, .inl ⟨rfl, rfl⟩⟩

/-- a row stays where no block below a bound is touched, and it lies below. -/
theorem owns_below {w w' : World} {base sz B : Nat} {t : TypeId} {v : Value} {n : Nat} {xs : List Value} (h : w.ownsRow base t sz v n xs) (hb : Below B w w') (hB : w.heap.size ≤ B) : w'.ownsRow base t sz v n xs := by
  refine ⟨h.1, ?_⟩
  rcases h.2 with hn | ⟨g, cap, cur, hv, hg, hh, r⟩
  · exact .inl hn
  · exact .inr ⟨g, cap, cur, hv, hg, by rw [hb.block g (Nat.lt_of_lt_of_le (lt_of_block hh) hB)]; exact hh, r⟩

theorem owns_bs {w : World} {base : Nat} {v : Value} {n : Nat} {l : List Int} (h : w.ownsRow base 5 1 v n (cellsB l)) (hl : Byt l) : ∃ a cap, v = .slice a n cap ∧ Bs w a n l ∧ n ≤ cap ∧ (a = none → cap = 0) := by
  have hlen : l.length = n := by have := h.1; simpa [cellsB] using this
  rcases h.2 with ⟨rfl, rfl⟩ | ⟨g, cap, cur, rfl, hb, hg, hnc, hcm, hcs, htake⟩
  · exact ⟨none, 0, rfl, ⟨hlen, hl, fun h => absurd h (by omega)⟩, by omega, fun _ => rfl⟩
  · refine ⟨_, cap, rfl, ⟨hlen, hl, fun _ => ⟨g, 0, rfl, fun i hi => ?_⟩⟩, hnc, by simp⟩
    have := h.cells (g := g) rfl i (.int .u8 (l.getD i 0)) (by simp [cellsB, List.getElem?_eq_getElem (show i < l.length from by omega)])
    rw [show (⟨g, 0 + i, none⟩ : Addr) = (⟨g, 0, none⟩ : Addr).add i from by unfold Addr.add; split <;> simp_all]
    exact this

theorem Bs.news {w : World} {x : Addr} {len : Nat} {l : List Int} (h : Bs w (some x) len l) : ∀ j u, (cellsB l)[j]? = some u → w.cell? (x.add j) = some u := by
  intro j u hu
  have hj : j < l.length := by
    have := (List.getElem?_eq_some_iff.1 hu).1
    simpa [cellsB] using this
  obtain ⟨b, off, e, hc⟩ := h.2.2 (by have := h.1; omega)
  cases e
  have := hc j (by have := h.1; omega)
  rw [show (⟨b, off + j, none⟩ : Addr) = (⟨b, off, none⟩ : Addr).add j from by unfold Addr.add; split <;> simp_all] at this
  rw [this]
  simp [cellsB, List.getElem?_eq_getElem hj] at hu ⊢
  exact hu

theorem Bs.nil {w : World} {len : Nat} {l : List Int} (h : Bs w none len l) : len = 0 ∧ l = [] := by
  have h0 : len = 0 := by
    rcases Nat.eq_zero_or_pos len with e | e
    · exact e
    · obtain ⟨_, _, e, _⟩ := h.2.2 e
      cases e
  exact ⟨h0, List.eq_nil_of_length_eq_zero (by rw [h.1, h0])⟩

theorem Bs.below {w w' : World} {a : Option Addr} {len : Nat} {l : List Int} (h : Bs w a len l) (hb : Below w.heap.size w w') : Bs w' a len l := by
  refine ⟨h.1, h.2.1, fun h0 => ?_⟩
  obtain ⟨b, off, ha, hc⟩ := h.2.2 h0
  refine ⟨b, off, ha, fun i hi => ?_⟩
  rw [hb.cell (p := ⟨b, off + i, none⟩) (World.block_lt_of_cell? w _ (hc i hi))]
  exact hc i hi

theorem grow_refl (w : World) (r : Option Nat) : w.grownBy w r := ⟨rfl, rfl, rfl, Nat.le_refl _, fun _ _ _ => rfl⟩

theorem append_bytes {w : World} {ops : Array Oper} {rest : List Oper} {o : Oper} {a : Act} {Q : Exit → Act → World → Prop} (hgd : o.guard = none) (s x : Operand)
    (ho : o.op = .call { callee := .builtin .append, args := #[s, x], argTypes := #[28, 28] })
    (base : Nat) (v : Value) (n : Nat) (l : List Int) (hs : a.eval s = v) (hown : w.ownsRow base 5 1 v n (cellsB l))
    (ao : Option Addr) (m c : Nat) (k : List Int) (hx : a.eval x = .slice ao m c) (hao : ao = none → c = 0) (hb : Bs w ao m k)
    (hn : n + m ≤ 1000000000) (hbase : base ≤ w.heap.size)
    (h : ∀ v' w', w'.ownsRow base 5 1 v' (n + m) (cellsB (l ++ k)) → w.grownBy w' v.ownBlock → wpList Try.prog ops Q rest (a.put o.dst v') w') : wpList Try.prog ops Q (o :: rest) a w := by
  obtain ⟨i0, hi, hz0, hz1, hz2⟩ := info_parts Try.info5
  cases ao with
  | none =>
    obtain ⟨rfl, rfl⟩ := hb.nil
    obtain rfl := hao rfl
    refine wpList_append_own_none hgd s x 28 ho base 5 i0 1 Try.underlying28 hi v n (cellsB l) hs hown hx ?_
    exact h v w (by simpa using hown) (grow_refl _ _)
  | some ad =>
    refine wpList_append_own _ hgd s x 28 ho base 5 i0 (.int .u8 0) 1 1 Try.underlying28 hi hz0 hz1 hz2 rfl (by decide) v n (cellsB l) hs hown ad m c (cellsB k) hx (by simp [cellsB, hb.1]) hb.news (by intro u hu; simp [cellsB] at hu; obtain ⟨z, _, rfl⟩ := hu; rfl) (by unfold maxLen; omega) (by omega) hbase ?_
    intro v' w' h1 h2 _
    exact h v' w' (by rw [cellsB_app]; exact h1) h2

/-- a row of four bytes, just made. -/
theorem bs_four (w : World) (p q r s : Int) (h : Byt [p, q, r, s]) : Bs (w.alloc (.cells #[.int .u8 p, .int .u8 q, .int .u8 r, .int .u8 s] 5)) (some ⟨w.heap.size, 0, none⟩) 4 [p, q, r, s] := by
  refine ⟨rfl, h, fun _ => ⟨_, _, rfl, fun i hi => ?_⟩⟩
  match i, hi with
  | 0, _ => simp
  | 1, _ => simp
  | 2, _ => simp
  | 3, _ => simp

theorem run_convert_bytes_zero (w : World) (p : Option Addr) (c : Nat) : (convert 28 9 (.slice p 0 c)).run Try.prog w = .ok (.string (strOfNums [])) w := by
  rw [run_convert_bytes_string w 28 9 5 _ 0 c Try.underlying28 Try.underlying5 Try.underlying9]
  cases p <;> simp [Conv.bytesToString, loadCells]
  all_goals rfl

/-- a slice of bytes, turned into a text. -/
theorem run_text {w : World} {a : Option Addr} {len : Nat} {l : List Int} (h : Bs w a len l) (cap : Nat) : (convert 28 9 (.slice a len cap)).run Try.prog w = .ok (.string (strOfNums l)) w := by
  rcases Nat.eq_zero_or_pos len with rfl | h0
  · obtain rfl : l = [] := List.eq_nil_of_length_eq_zero h.1
    exact run_convert_bytes_zero w a cap
  · obtain ⟨b, off, rfl, hc⟩ := h.2.2 h0
    exact run_convert_bytes_arg w 28 5 Try.underlying28 Try.underlying5 b off len cap l h.1 hc 9 Try.underlying9

theorem Bs.sub {w : World} {b off len : Nat} {l : List Int} (h : Bs w (some ⟨b, off, none⟩) len l) (i m : Nat) (hm : i + m ≤ len) : Bs w (some ⟨b, off + i, none⟩) m ((l.drop i).take m) := by
  refine ⟨by rw [List.length_take, List.length_drop, h.1]; omega, fun z hz => h.2.1 z (List.mem_of_mem_drop (List.mem_of_mem_take hz)), fun h0 => ⟨b, off + i, rfl, fun j hj => ?_⟩⟩
  obtain ⟨_, _, e, hc⟩ := h.2.2 (by omega)
  cases e
  rw [Nat.add_assoc, hc (i + j) (by omega)]
  simp [hj]

/-- an instruction as a value. -/
def In.val (x : In) : Value := .agg #[.int .u16 x.c, .int .u8 x.t, .int .u8 x.f, .int .u32 x.k]

/-- an instruction as cells. -/
def In.cells (x : In) : List Value := [.int .u16 x.c, .int .u8 x.t, .int .u8 x.f, .int .u32 x.k]

/-- the cells of an instruction. -/
def In.at (x : In) (w : World) (b o : Nat) : Prop :=
  w.cell? ⟨b, o, none⟩ = some (.int .u16 x.c) ∧ w.cell? ⟨b, o + 1, none⟩ = some (.int .u8 x.t) ∧ w.cell? ⟨b, o + 2, none⟩ = some (.int .u8 x.f) ∧ w.cell? ⟨b, o + 3, none⟩ = some (.int .u32 x.k)

/-- the instructions that a slice leads to. -/
def Ins (w : World) (a : Option Addr) (len : Nat) (its : List In) : Prop :=
  its.length = len ∧ (∀ x ∈ its, x.ok) ∧ (0 < len → ∃ b off, a = some ⟨b, off, none⟩ ∧ ∀ (i : Nat) (x : In), its[i]? = some x → x.at w b (off + i * 4))

theorem Ins.below {w w' : World} {a : Option Addr} {len : Nat} {its : List In} (h : Ins w a len its) (hb : Below w.heap.size w w') : Ins w' a len its := by
  refine ⟨h.1, h.2.1, fun h0 => ?_⟩
  obtain ⟨b, off, ha, hc⟩ := h.2.2 h0
  refine ⟨b, off, ha, fun i x hi => ?_⟩
  obtain ⟨h1, h2, h3, h4⟩ := hc i x hi
  have hlt : b < w.heap.size := World.block_lt_of_cell? w _ h1
  refine ⟨?_, ?_, ?_, ?_⟩
  · rw [hb.cell (p := ⟨b, off + i * 4, none⟩) hlt]; exact h1
  · rw [hb.cell (p := ⟨b, off + i * 4 + 1, none⟩) hlt]; exact h2
  · rw [hb.cell (p := ⟨b, off + i * 4 + 2, none⟩) hlt]; exact h3
  · rw [hb.cell (p := ⟨b, off + i * 4 + 3, none⟩) hlt]; exact h4

/-- instructions as cells. -/
def cellsI (l : List In) : List Value := l.flatMap In.cells

theorem cellsI_snoc (l : List In) (x : In) : cellsI (l ++ [x]) = cellsI l ++ x.cells := by simp [cellsI]

theorem cellsI_length (l : List In) : (cellsI l).length = l.length * 4 := by
  induction l with
  | nil => rfl
  | cons x l ih =>
    show (x.cells ++ cellsI l).length = _
    rw [List.length_append, ih, List.length_cons, Nat.add_mul]
    show 4 + _ = _
    omega

theorem cellsI_get (l : List In) : ∀ (i : Nat) (x : In) (c : Nat), l[i]? = some x → c < 4 → (cellsI l)[i * 4 + c]? = x.cells[c]? := by
  induction l with
  | nil => intro i x c h; simp at h
  | cons y l ih =>
    intro i x c h hc
    show (y.cells ++ cellsI l)[i * 4 + c]? = _
    cases i with
    | zero =>
      simp at h
      subst h
      rw [List.getElem?_append_left (by show _ < 4; omega)]
      congr 1
      omega
    | succ i =>
      rw [List.getElem?_append_right (by show 4 ≤ _; omega)]
      rw [List.getElem?_cons_succ] at h
      rw [← ih i x c h hc]
      congr 1
      show (i + 1) * 4 + c - 4 = _
      omega

theorem owns_ins {w : World} {base : Nat} {v : Value} {n : Nat} {l : List In} (h : w.ownsRow base 27 4 v n (cellsI l)) (hl : ∀ x ∈ l, x.ok) : ∃ a cap, v = .slice a n cap ∧ Ins w a n l := by
  have hlen : l.length = n := by have := h.1; rw [cellsI_length] at this; omega
  rcases h.2 with ⟨rfl, rfl⟩ | ⟨g, cap, cur, rfl, hb, hg, hnc, hcm, hcs, htake⟩
  · exact ⟨none, 0, rfl, hlen, hl, fun h => absurd h (by omega)⟩
  · refine ⟨_, cap, rfl, hlen, hl, fun _ => ⟨g, 0, rfl, fun i x hx => ?_⟩⟩
    have key : ∀ c u, c < 4 → x.cells[c]? = some u → w.cell? ⟨g, 0 + i * 4 + c, none⟩ = some u := by
      intro c u hc hu
      have := h.cells (g := g) rfl (i * 4 + c) u (by rw [cellsI_get l i x c hx hc]; exact hu)
      rw [show (⟨g, 0 + i * 4 + c, none⟩ : Addr) = (⟨g, 0, none⟩ : Addr).add (i * 4 + c) from by unfold Addr.add; split <;> simp_all]
      exact this
    exact ⟨key 0 _ (by decide) rfl, key 1 _ (by decide) rfl, key 2 _ (by decide) rfl, key 3 _ (by decide) rfl⟩

theorem new_cells (w : World) (x : In) (o : Obj) (ho : o = .cells #[.int .u16 x.c, .int .u8 x.t, .int .u8 x.f, .int .u32 x.k] 27) : ∀ j u, x.cells[j]? = some u → (w.alloc o).cell? ((⟨w.heap.size, 0, none⟩ : Addr).add j) = some u := by
  subst ho
  intro j u hu
  match j, hu with
  | 0, hu => cases hu; simp [Addr.add]
  | 1, hu => cases hu; simp [Addr.add]
  | 2, hu => cases hu; simp [Addr.add]
  | 3, hu => cases hu; simp [Addr.add]

theorem append_in {w : World} {ops : Array Oper} {rest : List Oper} {o : Oper} {a : Act} {Q : Exit → Act → World → Prop} (hgd : o.guard = none) (s x : Operand)
    (ho : o.op = .call { callee := .builtin .append, args := #[s, x], argTypes := #[34, 34] })
    (base : Nat) (v : Value) (n : Nat) (l : List In) (hs : a.eval s = v) (hown : w.ownsRow base 27 4 v n (cellsI l))
    (it : In) (ad : Addr) (hx : a.eval x = .slice (some ad) 1 1) (hnews : ∀ j u, it.cells[j]? = some u → w.cell? (ad.add j) = some u)
    (hn : n ≤ 1000000) (hbase : base ≤ w.heap.size)
    (h : ∀ v' w', w'.ownsRow base 27 4 v' (n + 1) (cellsI (l ++ [it])) → w.grownBy w' v.ownBlock → wpList Try.prog ops Q rest (a.put o.dst v') w') : wpList Try.prog ops Q (o :: rest) a w := by
  obtain ⟨i0, hi, hz0, hz1, hz2⟩ := info_parts Try.info27
  refine wpList_append_own _ hgd s x 34 ho base 27 i0 _ 4 8 Try.underlying34 hi hz0 hz1 hz2 rfl (by decide) v n (cellsI l) hs hown ad 1 1 it.cells hx rfl hnews (by intro u hu; simp [In.cells] at hu; rcases hu with rfl | rfl | rfl | rfl <;> rfl) (by unfold maxLen; omega) (by omega) hbase ?_
  intro v' w' h1 h2 _
  exact h v' w' (by rw [cellsI_snoc]; exact h1) h2

end Go.Proofs.Ytonhkohfogpflaa
