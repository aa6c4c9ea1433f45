/-
  What is shown of words and acts, as texts.
-/
import Derived.Test.YtcllgpbgikidjaaDoorSWord
namespace Go.Proofs.YtcllgpbgikidjaaDoor
open Go.RowKit

/-- texts as cells. -/
def cellsT' (l : List (List UInt8)) : List Value := l.map fun t => .string (bar t)

theorem cellsT'_append (a b : List (List UInt8)) : cellsT' (a ++ b) = cellsT' a ++ cellsT' b := by simp [cellsT']
theorem cellsT'_length (a : List (List UInt8)) : (cellsT' a).length = a.length := by simp [cellsT']

/-- a row of texts of the call's own. -/
def Row (w w' : World) (e : Ending) (l : List (List UInt8)) : Prop := ∃ v, e = .returned v ∧ w'.ownsRow w.heap.size 9 1 v l.length (cellsT' l) ∧ Below w.heap.size w w'

theorem wordT_any (s : ByteArray) (w : World) : Calls Tryd.prog 106 #[.string s] w fun e w' => Row w w' e [lst s] := by
  have HO := owns_new (w := w) (base := w.heap.size) 9 [.string s] (Nat.le_refl _) (by simp) (by simp)
  go_enter Tryd.func106, Tryd.ntmps106
  go_wp2
  go_ret
  refine ⟨_, rfl, ?_, (Below.refl _ _).alloc (Nat.le_refl _) _⟩
  simp only [cellsT', List.map_cons, List.map_nil, bar_lst]
  exact HO

/-- an append, as a step of a walk. -/
def AppG (t e : TypeId) (base : Nat) (w X : World) (v : Value) (g m c n : Nat) (xs : List Value) : Prop :=
  ∀ ty, ∃ v' w', (Builtin.append_ #[t, t] ty #[v, .slice (some ⟨g, 0, none⟩) m c]).run Tryd.prog X = .ok v' w' ∧ w'.ownsRow base e 1 v' n xs ∧ Below base w w'

theorem AppG.step {t e : TypeId} {base : Nat} {w X : World} {v : Value} {g m c n : Nat} {xs : List Value} (h0 : AppG t e base w X v g m c n xs) {ops : Array Oper} {o : Oper} {a : Act} {K : Act → World → Prop} {Q : Exit → Act → World → Prop} {E : Prop} (s x : Operand) (hgd : o.guard = none)
    (ho : o.op = .call { callee := .builtin .append, args := #[s, x], argTypes := #[t, t] }) (hs : a.eval s = v) (hx : a.eval x = .slice (some ⟨g, 0, none⟩) m c)
    (h : ∀ v' w', w'.ownsRow base e 1 v' n xs → Below base w w' → K (a.put o.dst v') w') :
    if Region.wanted o (yielded ops a.tmps) = true then Oper.wp Tryd.prog o a X K Q else E := by
  have hw : Region.wanted o (yielded ops a.tmps) = true := by simp [Region.wanted, hgd]
  rw [if_pos hw]
  obtain ⟨v', w', hr, g1, g2⟩ := h0 o.type
  unfold Oper.wp execOp
  simp only [ho, resolve, invoke, builtin, Sem.run_bind, Sem.run_pure, Result.andThen_ok, List.map_toArray, List.map_cons, List.map_nil, hs, hx, hr]
  exact h v' w' g1 g2

theorem AppG.list {t e : TypeId} {base : Nat} {w X : World} {v : Value} {g m c n : Nat} {xs : List Value} (h0 : AppG t e base w X v g m c n xs) {ops : Array Oper} {rest : List Oper} {o : Oper} {a : Act} {Q : Exit → Act → World → Prop} (s x : Operand) (hgd : o.guard = none)
    (ho : o.op = .call { callee := .builtin .append, args := #[s, x], argTypes := #[t, t] }) (hs : a.eval s = v) (hx : a.eval x = .slice (some ⟨g, 0, none⟩) m c)
    (h : ∀ v' w', w'.ownsRow base e 1 v' n xs → Below base w w' → wpList Tryd.prog ops Q rest (a.put o.dst v') w') : wpList Tryd.prog ops Q (o :: rest) a X := by
  refine wpList_plain hgd fun K hK => ?_
  obtain ⟨v', w', hr, g1, g2⟩ := h0 o.type
  unfold Oper.wp execOp
  simp only [ho, resolve, invoke, builtin, Sem.run_bind, Sem.run_pure, Result.andThen_ok, List.map_toArray, List.map_cons, List.map_nil, hs, hx, hr]
  exact hK _ _ (h v' w' g1 g2)

/-- an append of texts. -/
def App (base : Nat) (w X : World) (v : Value) (g m c : Nat) (l : List (List UInt8)) : Prop := AppG 36 9 base w X v g m c l.length (cellsT' l)

theorem app_mk {base : Nat} {w X : World} {v : Value} {g m c : Nat} {l : List (List UInt8)} (ms : List (List UInt8)) (hm : ms.length = m) (hb : Below base w X) (hB : base ≤ X.heap.size) (ho : X.ownsRow base 9 1 v l.length (cellsT' l)) (hc : ∀ j u, (cellsT' ms)[j]? = some u → X.cell? ⟨g, j, none⟩ = some u) (hl : l.length + m ≤ 1000000) : App base w X v g m c (l ++ ms) := by
  intro ty
  obtain ⟨i0, hi, hz0, hz1, hz2⟩ := info_parts Tryd.infoB
  obtain ⟨v', w', hr, g1, g2, _⟩ := run_append_own (P := Tryd.prog) X base 36 ty 9 i0 _ 1 16 Tryd.underlying36 hi hz0 hz1 hz2 rfl (by decide) v l.length (cellsT' l) ho ⟨g, 0, none⟩ m c (cellsT' ms) (by rw [cellsT'_length, hm]; omega) (fun j u hu => by
    rw [show (⟨g, 0, none⟩ : Addr).add j = ⟨g, j, none⟩ from by unfold Addr.add; split <;> simp_all]
    exact hc j u hu) (by intro u hu; simp [cellsT'] at hu; obtain ⟨y, _, rfl⟩ := hu; rfl) (by unfold maxLen; omega) (by omega) hB
  refine ⟨v', w', hr, ?_, below_grown hb ho g2 hB⟩
  rw [List.length_append, hm, cellsT'_append]
  exact g1

/-- one text more. -/
theorem app_one {base : Nat} {w W : World} {v : Value} {l : List (List UInt8)} (t : List UInt8) (hb : Below base w W) (hB : base ≤ W.heap.size) (ho : W.ownsRow base 9 1 v l.length (cellsT' l)) (hl : l.length ≤ 1000) : App base w (W.alloc (Obj.cells #[.string (bar t)] 9)) v W.heap.size 1 1 (l ++ [t]) := by
  have b1 : Below W.heap.size W (W.alloc (Obj.cells #[.string (bar t)] 9)) := (Below.refl _ _).alloc (Nat.le_refl _) _
  refine app_mk [t] rfl (hb.alloc hB _) (by rw [size_alloc']; omega) (owns_below ho b1 (Nat.le_refl _)) (fun j u hu => ?_) (by omega)
  rw [(blk_new W #[.string (bar t)] 9).cell j]
  exact hu

/-- two texts more. -/
theorem app_two {base : Nat} {w W : World} {v : Value} {l : List (List UInt8)} (t u : List UInt8) (hb : Below base w W) (hB : base ≤ W.heap.size) (ho : W.ownsRow base 9 1 v l.length (cellsT' l)) (hl : l.length ≤ 1000) : App base w (W.alloc (Obj.cells #[.string (bar t), .string (bar u)] 9)) v W.heap.size 2 2 (l ++ [t, u]) := by
  have b1 : Below W.heap.size W (W.alloc (Obj.cells #[.string (bar t), .string (bar u)] 9)) := (Below.refl _ _).alloc (Nat.le_refl _) _
  refine app_mk [t, u] rfl (hb.alloc hB _) (by rw [size_alloc']; omega) (owns_below ho b1 (Nat.le_refl _)) (fun j z hz => ?_) (by omega)
  rw [(blk_new W #[.string (bar t), .string (bar u)] 9).cell j]
  exact hz

/-- an act's texts. -/
def actT (T : List Int) (k a : Int) : List (List UInt8) := wordS k.toNat :: (if hasN k then [dec T a.toNat] else [])

set_option maxHeartbeats 1000000 in
theorem actT_any (T : List Int) (k a : Int) (h1 : 1 ≤ k) (h8 : k ≤ 8) (ha : 0 ≤ a) (ha2 : a ≤ 65535) (w : World) (ht : Tb T w) :
    Calls Tryd.prog 107 #[.agg #[.int .i64 k, .int .i64 a]] w fun e w' => Row w w' e (actT T k a) := by
  have be : Below w.heap.size w (w.alloc (Obj.cells #[.int .i64 k, .int .i64 a] 53)) := (Below.refl _ _).alloc (Nat.le_refl _) _
  have BE : Hid (Below w.heap.size w (w.alloc (Obj.cells #[.int .i64 k, .int .i64 a] 53))) := be
  have HK : Hid (Blk (w.alloc (Obj.cells #[.int .i64 k, .int .i64 a] 53)) w.heap.size 53 [.int .i64 k, .int .i64 a]) := blk_new w _ _
  have HT : Hid (Tb T (w.alloc (Obj.cells #[.int .i64 k, .int .i64 a] 53))) := ht.below be
  have HW : Hid (∀ W, Calls Tryd.prog 108 #[.int .i64 k] W fun e w' => e = .returned (.string (bar (wordS k.toNat))) ∧ Below W.heap.size W w') := wordOf_any k h1 h8
  have HI : Hid (∀ W, Tb T W → Calls Tryd.prog 75 #[.int .i64 a] W fun e w' => e = .returned (.string (bar (dec T a.toNat))) ∧ Below W.heap.size W w') := by
    intro W hW
    obtain ⟨n, rfl⟩ : ∃ n : Nat, a = n := ⟨a.toNat, by omega⟩
    exact itoa_any T n (by omega) W hW
  have HN : Hid (∀ W, Calls Tryd.prog 109 #[.int .i64 k] W fun e w' => e = .returned (.bool (hasN k)) ∧ w' = W) := hasNum_any k
  clear be ht h1 h8 ha ha2
  unfold actT
  generalize wordS k.toNat = WS at *
  generalize dec T a.toNat = DA at *
  generalize hasN k = HN' at *
  rcases Bool.eq_false_or_eq_true HN' with rfl | rfl
  all_goals
    first | rw [if_pos rfl] | rw [if_neg (by decide)]
    go_enter Tryd.func107, Tryd.ntmps107
    go_wp2_with fail
    generalize (w.alloc (Obj.cells #[.int .i64 k, .int .i64 a] 53)) = X at *
    refine (HW.out _).mono ?_
    rintro e w1 ⟨rfl, b1⟩
    have HB1 : Hid (Below w.heap.size w w1) := BE.out.trans (b1.mono BE.out.size)
    have HO : Hid ((w1.alloc (Obj.cells #[.string (bar WS)] 9)).ownsRow w.heap.size 9 1 (.slice (some ⟨w1.heap.size, 0, none⟩) 1 1) 1 [.string (bar WS)]) := owns_new (w := w1) (base := w.heap.size) 9 [.string (bar WS)] HB1.out.size (by simp) (by simp)
    have b2 : Below X.heap.size X (w1.alloc (Obj.cells #[.string (bar WS)] 9)) := b1.alloc b1.size _
    have HB2 : Hid (Below w.heap.size w (w1.alloc (Obj.cells #[.string (bar WS)] 9))) := HB1.out.alloc HB1.out.size _
    have HK2 : Hid (Blk (w1.alloc (Obj.cells #[.string (bar WS)] 9)) w.heap.size 53 [.int .i64 k, .int .i64 a]) := HK.out.over b2
    have HT2 : Hid (Tb T (w1.alloc (Obj.cells #[.string (bar WS)] 9))) := HT.out.below b2
    have t0 : (w1.alloc (Obj.cells #[.string (bar WS)] 9)).cell? ⟨w.heap.size, 0, none⟩ = some (.int .i64 k) := HK2.out.cell 0
    have t1 : (w1.alloc (Obj.cells #[.string (bar WS)] 9)).cell? ⟨w.heap.size, 1, none⟩ = some (.int .i64 a) := HK2.out.cell 1
    clear b1 b2 HB1
    go_wp2_with fail
    generalize (w1.alloc (Obj.cells #[.string (bar WS)] 9)) = Y at *
    generalize w1.heap.size = g at *
    refine (HN.out _).mono ?_
    rintro e w2 ⟨rfl, hw2⟩
    subst w2
  · go_wp2_with fail
    refine (HI.out _ HT2.out).mono ?_
    rintro e w3 ⟨rfl, b3⟩
    have HB3 : Hid (Below w.heap.size w w3) := HB2.out.trans (b3.mono HB2.out.size)
    have O3 := owns_below HO.out b3 (Nat.le_refl _)
    have HA : Hid (App w.heap.size w (w3.alloc (Obj.cells #[.string (bar DA)] 9)) (.slice (some ⟨g, 0, none⟩) 1 1) w3.heap.size 1 1 ([WS] ++ [DA])) := app_one (l := [WS]) DA HB3.out HB3.out.size O3 (by simp)
    clear O3 b3
    go_wp2_with (at_builtin; refine AppG.list HA.out (.tmp 11) (.tmp 15) rfl rfl rfl rfl ?_; intro v' w5 h5 b5)
    go_ret
    exact ⟨_, rfl, h5, b5⟩
  · go_wp2_with fail
    go_ret
    exact ⟨_, rfl, HO.out, HB2.out⟩

end Go.Proofs.YtcllgpbgikidjaaDoor
