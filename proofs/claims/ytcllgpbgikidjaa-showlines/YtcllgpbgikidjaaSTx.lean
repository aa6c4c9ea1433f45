/-
  STx
-/
import Derived.Test.YtcllgpbgikidjaaSNum
import Derived.Laws.Concat
import Derived.Deep.RegionHeld3
/-
  The words of acts and the signs of conditions.
-/
namespace Go.Proofs.Ytcllgpbgikidjaa
open Go.RowKit

/-- the word of a kind; the sign of an op. -/
def wordS (k : Nat) : List UInt8 := [[], [107, 105, 108, 108], [116, 104, 114, 101, 97, 100], [116, 114, 97, 112], [101, 114, 114, 110, 111], [110, 111, 116, 105, 102, 121], [116, 114, 97, 99, 101], [108, 111, 103], [97, 108, 108, 111, 119]].getD k []
def signS (o : Nat) : List UInt8 := [[], [61, 61], [33, 61], [60], [60, 61], [62], [62, 61]].getD o []

theorem eight {k : Int} (h1 : 1 ≤ k) (h8 : k ≤ 8) : k = 1 ∨ k = 2 ∨ k = 3 ∨ k = 4 ∨ k = 5 ∨ k = 6 ∨ k = 7 ∨ k = 8 := by omega
theorem six {k : Int} (h1 : 1 ≤ k) (h8 : k ≤ 6) : k = 1 ∨ k = 2 ∨ k = 3 ∨ k = 4 ∨ k = 5 ∨ k = 6 := by omega

theorem wordOf_any (k : Int) (h1 : 1 ≤ k) (h8 : k ≤ 8) (w : World) : Calls Try.prog 66 #[.int .i64 k] w fun e w' => e = .returned (.string (bar (wordS k.toNat))) ∧ Below w.heap.size w w' := by
  rcases eight h1 h8 with rfl | rfl | rfl | rfl | rfl | rfl | rfl | rfl
  all_goals
    go_enter Try.func66, Try.ntmps66
    go_wp2
    go_ret
    exact ⟨rfl, (Below.refl _ _).alloc (Nat.le_refl _) _⟩

theorem signOf_any (k : Int) (h1 : 1 ≤ k) (h8 : k ≤ 6) (w : World) : Calls Try.prog 85 #[.int .i64 k] w fun e w' => e = .returned (.string (bar (signS k.toNat))) ∧ Below w.heap.size w w' := by
  rcases six h1 h8 with rfl | rfl | rfl | rfl | rfl | rfl
  all_goals
    go_enter Try.func85, Try.ntmps85
    go_wp2
    go_ret
    exact ⟨rfl, (Below.refl _ _).alloc (Nat.le_refl _) _⟩

end Go.Proofs.Ytcllgpbgikidjaa

/-
  What is shown of words and acts, as texts.
-/
namespace Go.Proofs.Ytcllgpbgikidjaa
open Go.RowKit

/-- texts as cells. -/
def cellsT' (l : List (List UInt8)) : List Value := l.map fun t => .string (bar t)

theorem cellsT'_append (a b : List (List UInt8)) : cellsT' (a ++ b) = cellsT' a ++ cellsT' b := by simp [cellsT']
theorem cellsT'_length (a : List (List UInt8)) : (cellsT' a).length = a.length := by simp [cellsT']

/-- a row of texts of the call's own. -/
def Row (w w' : World) (e : Ending) (l : List (List UInt8)) : Prop := ∃ v, e = .returned v ∧ w'.ownsRow w.heap.size 9 1 v l.length (cellsT' l) ∧ Below w.heap.size w w'

theorem wordT_any (s : ByteArray) (w : World) : Calls Try.prog 64 #[.string s] w fun e w' => Row w w' e [lst s] := by
  have HO := owns_new (w := w) (base := w.heap.size) 9 [.string s] (Nat.le_refl _) (by simp) (by simp)
  go_enter Try.func64, Try.ntmps64
  go_wp2
  go_ret
  refine ⟨_, rfl, ?_, (Below.refl _ _).alloc (Nat.le_refl _) _⟩
  simp only [cellsT', List.map_cons, List.map_nil, bar_lst]
  exact HO

/-- an append, as a step of a walk. -/
def AppG (t e : TypeId) (base : Nat) (w X : World) (v : Value) (g m c n : Nat) (xs : List Value) : Prop :=
  ∀ ty, ∃ v' w', (Builtin.append_ #[t, t] ty #[v, .slice (some ⟨g, 0, none⟩) m c]).run Try.prog X = .ok v' w' ∧ w'.ownsRow base e 1 v' n xs ∧ Below base w w'

theorem AppG.step {t e : TypeId} {base : Nat} {w X : World} {v : Value} {g m c n : Nat} {xs : List Value} (h0 : AppG t e base w X v g m c n xs) {ops : Array Oper} {o : Oper} {a : Act} {K : Act → World → Prop} {Q : Exit → Act → World → Prop} {E : Prop} (s x : Operand) (hgd : o.guard = none)
    (ho : o.op = .call { callee := .builtin .append, args := #[s, x], argTypes := #[t, t] }) (hs : a.eval s = v) (hx : a.eval x = .slice (some ⟨g, 0, none⟩) m c)
    (h : ∀ v' w', w'.ownsRow base e 1 v' n xs → Below base w w' → K (a.put o.dst v') w') :
    if Region.wanted o (yielded ops a.tmps) = true then Oper.wp Try.prog o a X K Q else E := by
  have hw : Region.wanted o (yielded ops a.tmps) = true := by simp [Region.wanted, hgd]
  rw [if_pos hw]
  obtain ⟨v', w', hr, g1, g2⟩ := h0 o.type
  unfold Oper.wp execOp
  simp only [ho, resolve, invoke, builtin, Sem.run_bind, Sem.run_pure, Result.andThen_ok, List.map_toArray, List.map_cons, List.map_nil, hs, hx, hr]
  exact h v' w' g1 g2

theorem AppG.list {t e : TypeId} {base : Nat} {w X : World} {v : Value} {g m c n : Nat} {xs : List Value} (h0 : AppG t e base w X v g m c n xs) {ops : Array Oper} {rest : List Oper} {o : Oper} {a : Act} {Q : Exit → Act → World → Prop} (s x : Operand) (hgd : o.guard = none)
    (ho : o.op = .call { callee := .builtin .append, args := #[s, x], argTypes := #[t, t] }) (hs : a.eval s = v) (hx : a.eval x = .slice (some ⟨g, 0, none⟩) m c)
    (h : ∀ v' w', w'.ownsRow base e 1 v' n xs → Below base w w' → wpList Try.prog ops Q rest (a.put o.dst v') w') : wpList Try.prog ops Q (o :: rest) a X := by
  refine wpList_plain hgd fun K hK => ?_
  obtain ⟨v', w', hr, g1, g2⟩ := h0 o.type
  unfold Oper.wp execOp
  simp only [ho, resolve, invoke, builtin, Sem.run_bind, Sem.run_pure, Result.andThen_ok, List.map_toArray, List.map_cons, List.map_nil, hs, hx, hr]
  exact hK _ _ (h v' w' g1 g2)

/-- an append of texts. -/
def App (base : Nat) (w X : World) (v : Value) (g m c : Nat) (l : List (List UInt8)) : Prop := AppG 33 9 base w X v g m c l.length (cellsT' l)

theorem app_mk {base : Nat} {w X : World} {v : Value} {g m c : Nat} {l : List (List UInt8)} (ms : List (List UInt8)) (hm : ms.length = m) (hb : Below base w X) (hB : base ≤ X.heap.size) (ho : X.ownsRow base 9 1 v l.length (cellsT' l)) (hc : ∀ j u, (cellsT' ms)[j]? = some u → X.cell? ⟨g, j, none⟩ = some u) (hl : l.length + m ≤ 1000000) : App base w X v g m c (l ++ ms) := by
  intro ty
  obtain ⟨i0, hi, hz0, hz1, hz2⟩ := info_parts Try.infoB
  obtain ⟨v', w', hr, g1, g2, _⟩ := run_append_own (P := Try.prog) X base 33 ty 9 i0 _ 1 16 Try.underlying33 hi hz0 hz1 hz2 rfl (by decide) v l.length (cellsT' l) ho ⟨g, 0, none⟩ m c (cellsT' ms) (by rw [cellsT'_length, hm]; omega) (fun j u hu => by
    rw [show (⟨g, 0, none⟩ : Addr).add j = ⟨g, j, none⟩ from by unfold Addr.add; split <;> simp_all]
    exact hc j u hu) (by intro u hu; simp [cellsT'] at hu; obtain ⟨y, _, rfl⟩ := hu; rfl) (by unfold maxLen; omega) (by omega) hB
  refine ⟨v', w', hr, ?_, below_grown hb ho g2 hB⟩
  rw [List.length_append, hm, cellsT'_append]
  exact g1

/-- one text more. -/
theorem app_one {base : Nat} {w W : World} {v : Value} {l : List (List UInt8)} (t : List UInt8) (hb : Below base w W) (hB : base ≤ W.heap.size) (ho : W.ownsRow base 9 1 v l.length (cellsT' l)) (hl : l.length ≤ 1000) : App base w (W.alloc (Obj.cells #[.string (bar t)] 9)) v W.heap.size 1 1 (l ++ [t]) := by
  have b1 : Below W.heap.size W (W.alloc (Obj.cells #[.string (bar t)] 9)) := (Below.refl _ _).alloc (Nat.le_refl _) _
  refine app_mk [t] rfl (hb.alloc hB _) (by rw [size_alloc']; omega) (owns_below ho b1 (Nat.le_refl _)) (fun j u hu => ?_) (by omega)
  rw [(blk_new W #[.string (bar t)] 9).cell j]
  exact hu

/-- two texts more. -/
theorem app_two {base : Nat} {w W : World} {v : Value} {l : List (List UInt8)} (t u : List UInt8) (hb : Below base w W) (hB : base ≤ W.heap.size) (ho : W.ownsRow base 9 1 v l.length (cellsT' l)) (hl : l.length ≤ 1000) : App base w (W.alloc (Obj.cells #[.string (bar t), .string (bar u)] 9)) v W.heap.size 2 2 (l ++ [t, u]) := by
  have b1 : Below W.heap.size W (W.alloc (Obj.cells #[.string (bar t), .string (bar u)] 9)) := (Below.refl _ _).alloc (Nat.le_refl _) _
  refine app_mk [t, u] rfl (hb.alloc hB _) (by rw [size_alloc']; omega) (owns_below ho b1 (Nat.le_refl _)) (fun j z hz => ?_) (by omega)
  rw [(blk_new W #[.string (bar t), .string (bar u)] 9).cell j]
  exact hz

/-- an act's texts. -/
def actT (T : List Int) (k a : Int) : List (List UInt8) := wordS k.toNat :: (if hasN k then [dec T a.toNat] else [])

set_option maxHeartbeats 1000000 in
theorem actT_any (T : List Int) (k a : Int) (h1 : 1 ≤ k) (h8 : k ≤ 8) (ha : 0 ≤ a) (ha2 : a ≤ 65535) (w : World) (ht : Tb T w) :
    Calls Try.prog 65 #[.agg #[.int .i64 k, .int .i64 a]] w fun e w' => Row w w' e (actT T k a) := by
  have be : Below w.heap.size w (w.alloc (Obj.cells #[.int .i64 k, .int .i64 a] 50)) := (Below.refl _ _).alloc (Nat.le_refl _) _
  have BE : Hid (Below w.heap.size w (w.alloc (Obj.cells #[.int .i64 k, .int .i64 a] 50))) := be
  have HK : Hid (Blk (w.alloc (Obj.cells #[.int .i64 k, .int .i64 a] 50)) w.heap.size 50 [.int .i64 k, .int .i64 a]) := blk_new w _ _
  have HT : Hid (Tb T (w.alloc (Obj.cells #[.int .i64 k, .int .i64 a] 50))) := ht.below be
  have HW : Hid (∀ W, Calls Try.prog 66 #[.int .i64 k] W fun e w' => e = .returned (.string (bar (wordS k.toNat))) ∧ Below W.heap.size W w') := wordOf_any k h1 h8
  have HI : Hid (∀ W, Tb T W → Calls Try.prog 68 #[.int .i64 a] W fun e w' => e = .returned (.string (bar (dec T a.toNat))) ∧ Below W.heap.size W w') := by
    intro W hW
    obtain ⟨n, rfl⟩ : ∃ n : Nat, a = n := ⟨a.toNat, by omega⟩
    exact itoa_any T n (by omega) W hW
  have HN : Hid (∀ W, Calls Try.prog 67 #[.int .i64 k] W fun e w' => e = .returned (.bool (hasN k)) ∧ w' = W) := hasNum_any k
  clear be ht h1 h8 ha ha2
  unfold actT
  generalize wordS k.toNat = WS at *
  generalize dec T a.toNat = DA at *
  generalize hasN k = HN' at *
  rcases Bool.eq_false_or_eq_true HN' with rfl | rfl
  all_goals
    first | rw [if_pos rfl] | rw [if_neg (by decide)]
    go_enter Try.func65, Try.ntmps65
    go_wp2_with fail
    generalize (w.alloc (Obj.cells #[.int .i64 k, .int .i64 a] 50)) = X at *
    refine (HW.out _).mono ?_
    rintro e w1 ⟨rfl, b1⟩
    have HB1 : Hid (Below w.heap.size w w1) := BE.out.trans (b1.mono BE.out.size)
    have HO : Hid ((w1.alloc (Obj.cells #[.string (bar WS)] 9)).ownsRow w.heap.size 9 1 (.slice (some ⟨w1.heap.size, 0, none⟩) 1 1) 1 [.string (bar WS)]) := owns_new (w := w1) (base := w.heap.size) 9 [.string (bar WS)] HB1.out.size (by simp) (by simp)
    have b2 : Below X.heap.size X (w1.alloc (Obj.cells #[.string (bar WS)] 9)) := b1.alloc b1.size _
    have HB2 : Hid (Below w.heap.size w (w1.alloc (Obj.cells #[.string (bar WS)] 9))) := HB1.out.alloc HB1.out.size _
    have HK2 : Hid (Blk (w1.alloc (Obj.cells #[.string (bar WS)] 9)) w.heap.size 50 [.int .i64 k, .int .i64 a]) := HK.out.over b2
    have HT2 : Hid (Tb T (w1.alloc (Obj.cells #[.string (bar WS)] 9))) := HT.out.below b2
    have t0 : (w1.alloc (Obj.cells #[.string (bar WS)] 9)).cell? ⟨w.heap.size, 0, none⟩ = some (.int .i64 k) := HK2.out.cell 0
    have t1 : (w1.alloc (Obj.cells #[.string (bar WS)] 9)).cell? ⟨w.heap.size, 1, none⟩ = some (.int .i64 a) := HK2.out.cell 1
    clear b1 b2 HB1
    go_wp2_with fail
    generalize (w1.alloc (Obj.cells #[.string (bar WS)] 9)) = Y at *
    generalize w1.heap.size = g at *
    refine (HN.out _).mono ?_
    rintro e w2 ⟨rfl, hw2⟩
    subst w2
  · go_wp2_with fail
    refine (HI.out _ HT2.out).mono ?_
    rintro e w3 ⟨rfl, b3⟩
    have HB3 : Hid (Below w.heap.size w w3) := HB2.out.trans (b3.mono HB2.out.size)
    have O3 := owns_below HO.out b3 (Nat.le_refl _)
    have HA : Hid (App w.heap.size w (w3.alloc (Obj.cells #[.string (bar DA)] 9)) (.slice (some ⟨g, 0, none⟩) 1 1) w3.heap.size 1 1 ([WS] ++ [DA])) := app_one (l := [WS]) DA HB3.out HB3.out.size O3 (by simp)
    clear O3 b3
    go_wp2_with (at_builtin; refine AppG.list HA.out (.tmp 11) (.tmp 15) rfl rfl rfl rfl ?_; intro v' w5 h5 b5)
    go_ret
    exact ⟨_, rfl, h5, b5⟩
  · go_wp2_with fail
    go_ret
    exact ⟨_, rfl, HO.out, HB2.out⟩

end Go.Proofs.Ytcllgpbgikidjaa

/-
  Names as texts, each but the last with its comma.
-/
namespace Go.Proofs.Ytcllgpbgikidjaa
open Go.RowKit

/-- names' texts. -/
def comma (s : ByteArray) : List UInt8 := lst s ++ [44]
def namesT : List ByteArray → List (List UInt8)
  | [] => []
  | [s] => [lst s]
  | s :: r => comma s :: namesT r

theorem namesT_snoc : ∀ (l : List ByteArray) (s : ByteArray), namesT (l ++ [s]) = l.map comma ++ [lst s] := by
  intro l
  induction l with
  | nil => intro s; rfl
  | cons x l ih =>
    intro s
    cases l with
    | nil => rfl
    | cons y l =>
      show comma x :: namesT (y :: l ++ [s]) = _
      rw [ih s]
      rfl

theorem namesT_at {ns : List ByteArray} {i : Nat} (h : i + 1 = ns.length) : namesT ns = (ns.take i).map comma ++ [lst (ns[i]'(by omega))] := by
  have e : ns = ns.take i ++ [ns[i]'(by omega)] := by
    rw [← List.take_succ_eq_append_getElem (by omega), h, List.take_length]
  conv => lhs; rw [e]
  exact namesT_snoc _ _

theorem comma_eq (s : ByteArray) : s ++ ⟨#[44]⟩ = bar (comma s) := by
  apply ByteArray.ext
  show (s ++ (⟨#[44]⟩ : ByteArray)).data = (lst s ++ [44]).toArray
  rw [ByteArray.data_append]
  apply Array.ext'
  simp [lst]

set_option maxHeartbeats 1000000 in
theorem namesT_any (w : World) (v : Value) (ns : List ByteArray) (h : StrR w v ns) (h1 : 1 ≤ ns.length) (h16 : ns.length ≤ 16) (hs : ∀ s ∈ ns, s.size ≤ 100000) :
    Calls Try.prog 82 #[v] w fun e w' => Row w w' e (namesT ns) := by
  obtain ⟨p1, c1, rfl⟩ : ∃ p c, v = .slice p ns.length c := by obtain ⟨p, c, e, _⟩ := h; exact ⟨p, c, e⟩
  obtain ⟨hcap, hcm⟩ : ns.length ≤ c1 ∧ c1 ≤ 9223372036854775807 := by obtain ⟨p, c, e, g1, g2, _⟩ := h; cases e; exact ⟨g1, g2⟩
  obtain ⟨b, o, rfl⟩ : ∃ b o, p1 = some ⟨b, o, none⟩ := by obtain ⟨b, o, e, _⟩ := strR_at h (i := 0) (by omega); exact ⟨b, o, e⟩
  obtain ⟨n, hn⟩ : ∃ n, ns.length = n + 1 := ⟨ns.length - 1, by omega⟩
  have HS : Hid (StrR w (.slice (some ⟨b, o, none⟩) ns.length c1) ns) := h
  have HZ : Hid (∀ s ∈ ns, s.size ≤ 100000) := hs
  have HN : Hid (ns.length = n + 1) := hn
  have hn16 : n ≤ 15 := by omega
  have hncap : n + 1 ≤ c1 := by omega
  clear h hs hcap
  rw [hn]
  clear hn h1 h16
  go_enter Try.func82, Try.ntmps82
  go_wp2
  go_loopw [3, 14] (fun v3 vi wr => ∃ (va : Value) (i : Nat), va = v3 ∧ vi = .int .i64 i ∧ i ≤ n ∧ wr.ownsRow w.heap.size 9 1 va ((ns.take i).map comma).length (cellsT' ((ns.take i).map comma)) ∧ Below w.heap.size w wr) (fun _ vi _ => n - (intOf vi).toNat)
  case atStart => exact ⟨_, 0, rfl, rfl, Nat.zero_le _, World.ownsRow_nil _ _ _ _, Below.refl _ _⟩
  case round =>
    obtain ⟨va, i, rfl, rfl, hi, ho, hb⟩ := hrel
    have HB : Hid (Below w.heap.size w wr) := hb
    have hlt' : i < ns.length := by have := HN.out; omega
    obtain ⟨b1, o1, e0, e1⟩ := strR_at (HS.out.below hb) hlt'
    cases e0
    have hz : ns[i].size ≤ 100000 := HZ.out _ (List.getElem_mem hlt')
    have hlen : ((ns.take i).map comma).length ≤ 1000 := by simp; omega
    have HA : Hid (App w.heap.size w (wr.alloc (Obj.cells #[.string (bar (comma ns[i]))] 9)) va wr.heap.size 1 1 ((ns.take i).map comma ++ [comma ns[i]])) := app_one (comma ns[i]) hb hb.size ho hlen
    have HA2 : Hid (App w.heap.size w (wr.alloc (Obj.cells #[.string ns[i]] 9)) va wr.heap.size 1 1 ((ns.take i).map comma ++ [lst ns[i]])) := by
      have := app_one (lst ns[i]) hb hb.size ho hlen
      rw [bar_lst] at this
      exact this
    have HT : Hid ((ns.take (i + 1)).map comma = (ns.take i).map comma ++ [comma ns[i]]) := by
      show (ns.take (i + 1)).map comma = _
      rw [List.take_succ_eq_append_getElem hlt', List.map_append]
      rfl
    have HE : Hid (i = n → namesT ns = (ns.take i).map comma ++ [lst ns[i]]) := fun e => namesT_at (by have := HN.out; omega)
    have hcm' := comma_eq ns[i]
    clear hb ho hlen
    generalize ns[i] = x at *
    by_cases hlt : i < n
    · have hi1 : (i : Int) < (n : Int) := by omega
      have hi2 : (i : Int) < (n : Int) + 1 := by omega
      clear HA2 HE
      go_wp2_with (at_builtin; refine AppG.list HA.out (.tmp 18) (.tmp 21) rfl rfl rfl rfl ?_; intro v' w5 h5 b5)
      go_roundw
      case rel => exact ⟨_, i + 1, rfl, by go_num, hlt, by rw [HT.out]; exact h5, b5⟩
      case measure => simp [intOf]; omega
    · obtain rfl : i = n := by omega
      have hge : ¬ (i : Int) < (i : Int) := by omega
      clear HA
      go_wp2_with (at_builtin; refine AppG.list HA2.out (.tmp 24) (.tmp 29) rfl rfl rfl rfl ?_; intro v' w5 h5 b5)
      go_ret
      exact ⟨_, rfl, by rw [HE.out trivial]; exact h5, b5⟩

end Go.Proofs.Ytcllgpbgikidjaa

/-
  A condition as texts.
-/
namespace Go.Proofs.Ytcllgpbgikidjaa
open Go.RowKit

/-- a condition's texts. -/
def condT (T : List Int) (x : Xc) : List (List UInt8) := ([97, 114, 103] ++ dec T x.arg.toNat) :: ((if x.mask == 18446744073709551615 then [] else [[38], dec T x.mask.toNat]) ++ [signS x.op.toNat, dec T x.val.toNat])

theorem bar_append (a b : List UInt8) : bar a ++ bar b = bar (a ++ b) := by
  apply ByteArray.ext
  show (bar a ++ bar b).data = (a ++ b).toArray
  rw [ByteArray.data_append]
  apply Array.ext'
  simp [bar]

set_option linter.unusedSimpArgs false in
set_option maxHeartbeats 1000000 in
theorem condT_any (T : List Int) (x : Xc) (h1 : 0 ≤ x.arg) (h2 : x.arg < 6) (h3 : 1 ≤ x.op) (h4 : x.op ≤ 6) (h5 : 0 ≤ x.mask) (h6 : x.mask < 18446744073709551616) (h7 : 0 ≤ x.val) (h8 : x.val < 18446744073709551616) (w : World) (ht : Tb T w) :
    Calls Try.prog 83 #[.agg #[.int .i64 x.arg, .int .i64 x.op, .int .u64 x.mask, .int .u64 x.val]] w fun e w' => Row w w' e (condT T x) := by
  obtain ⟨a, o, m, v⟩ := x
  unfold condT
  dsimp only at h1 h2 h3 h4 h5 h6 h7 h8 ⊢
  have be : Below w.heap.size w (w.alloc (Obj.cells #[.int .i64 a, .int .i64 o, .int .u64 m, .int .u64 v] 67)) := (Below.refl _ _).alloc (Nat.le_refl _) _
  have BE : Hid (Below w.heap.size w (w.alloc (Obj.cells #[.int .i64 a, .int .i64 o, .int .u64 m, .int .u64 v] 67))) := be
  have HK0 : Hid (Blk (w.alloc (Obj.cells #[.int .i64 a, .int .i64 o, .int .u64 m, .int .u64 v] 67)) w.heap.size 67 [.int .i64 a, .int .i64 o, .int .u64 m, .int .u64 v]) := blk_new w _ _
  have HT0 : Hid (Tb T (w.alloc (Obj.cells #[.int .i64 a, .int .i64 o, .int .u64 m, .int .u64 v] 67))) := ht.below be
  have HI : Hid (∀ W, Tb T W → Calls Try.prog 68 #[.int .i64 a] W fun e w' => e = .returned (.string (bar (dec T a.toNat))) ∧ Below W.heap.size W w') := by
    intro W hW
    obtain ⟨n, rfl⟩ : ∃ n : Nat, a = n := ⟨a.toNat, by omega⟩
    exact itoa_any T n (by omega) W hW
  have HDm : Hid (∀ W, Tb T W → Calls Try.prog 84 #[.int .u64 m] W fun e w' => e = .returned (.string (bar (dec T m.toNat))) ∧ Below W.heap.size W w') := by
    intro W hW
    obtain ⟨n, rfl⟩ : ∃ n : Nat, m = n := ⟨m.toNat, by omega⟩
    exact decimal_any T n (by omega) W hW
  have HDv : Hid (∀ W, Tb T W → Calls Try.prog 84 #[.int .u64 v] W fun e w' => e = .returned (.string (bar (dec T v.toNat))) ∧ Below W.heap.size W w') := by
    intro W hW
    obtain ⟨n, rfl⟩ : ∃ n : Nat, v = n := ⟨v.toNat, by omega⟩
    exact decimal_any T n (by omega) W hW
  have HSg : Hid (∀ W, Calls Try.prog 85 #[.int .i64 o] W fun e w' => e = .returned (.string (bar (signS o.toNat))) ∧ Below W.heap.size W w') := signOf_any o h3 h4
  have HLn : (dec T a.toNat).length ≤ 100 := dec_len T a.toNat (by omega)
  clear be ht h1 h2 h3 h4 h7 h8
  generalize dec T a.toNat = DA at *
  generalize dec T m.toNat = DM at *
  generalize dec T v.toNat = DV at *
  generalize signS o.toNat = SG at *
  have hcat : (⟨#[97, 114, 103]⟩ : ByteArray) ++ bar DA = bar ([97, 114, 103] ++ DA) := bar_append [97, 114, 103] DA
  have hsz : (bar DA).size ≤ 100 := by rw [bar_size]; exact HLn
  generalize [97, 114, 103] ++ DA = AD at *
  clear HLn
  have OUT : Hid (∀ (w' : World) (u : Value) (l : List (List UInt8)), w'.ownsRow (w.alloc (Obj.cells #[.int .i64 a, .int .i64 o, .int .u64 m, .int .u64 v] 67)).heap.size 9 1 u l.length (cellsT' l) → Below (w.alloc (Obj.cells #[.int .i64 a, .int .i64 o, .int .u64 m, .int .u64 v] 67)).heap.size (w.alloc (Obj.cells #[.int .i64 a, .int .i64 o, .int .u64 m, .int .u64 v] 67)) w' → Row w w' (.returned u) l) := fun w' u l h1 h2 => ⟨u, rfl, owns_lower h1 BE.out.size, BE.out.trans (h2.mono BE.out.size)⟩
  rcases Bool.eq_false_or_eq_true (m == 18446744073709551615) with hm | hm
  all_goals
    rw [hm]
    first | rw [if_pos rfl] | rw [if_neg (by decide)]
    have hm' : (m != 18446744073709551615) = !(m == 18446744073709551615) := rfl
    rw [hm] at hm'
    go_enter Try.func83, Try.ntmps83
    go_wp2_with fail
    generalize (w.alloc (Obj.cells #[.int .i64 a, .int .i64 o, .int .u64 m, .int .u64 v] 67)) = X at *
    refine (HI.out _ HT0.out).mono ?_
    rintro e w1 ⟨rfl, b1⟩
    have HO1 : Hid ((w1.alloc (Obj.cells #[.string (bar AD)] 9)).ownsRow X.heap.size 9 1 (.slice (some ⟨w1.heap.size, 0, none⟩) 1 1) 1 [.string (bar AD)]) := owns_new (w := w1) (base := X.heap.size) 9 [.string (bar AD)] b1.size (by simp) (by simp)
    have HB1 : Hid (Below X.heap.size X (w1.alloc (Obj.cells #[.string (bar AD)] 9))) := b1.alloc b1.size _
    have t2 : (w1.alloc (Obj.cells #[.string (bar AD)] 9)).cell? ⟨w.heap.size, 2, none⟩ = some (.int .u64 m) := (HK0.out.over HB1.out).cell 2
    have HK1 : Hid (Blk (w1.alloc (Obj.cells #[.string (bar AD)] 9)) w.heap.size 67 [.int .i64 a, .int .i64 o, .int .u64 m, .int .u64 v]) := HK0.out.over HB1.out
    have HT1 : Hid (Tb T (w1.alloc (Obj.cells #[.string (bar AD)] 9))) := HT0.out.below HB1.out
    clear b1 HI
    go_wp2_with fail
  · generalize (w1.alloc (Obj.cells #[.string (bar AD)] 9)) = Y at *
    generalize w1.heap.size = g1 at *
    have HO : Hid (Y.ownsRow X.heap.size 9 1 (.slice (some ⟨g1, 0, none⟩) 1 1) [AD].length (cellsT' [AD])) := HO1.out
    have HL : Hid ([AD].length ≤ 1000) := by show [AD].length ≤ 1000; simp
    clear HO1 HDm t2
    have HB : Hid (Below X.heap.size X Y) := HB1.out
    clear HK1 HT1 HB1
    generalize w.heap.size = b at *
    refine wp_region_held_drew (S := fun W => Below X.heap.size X W) (by kernel_rfl) (HB.out.drew) (fun hHeld => ?_)
    simp only [List.size_toArray, List.length_cons, List.length_nil, Nat.reduceAdd]
    refine wpAnyH_take (i := 0) (v := ?_) rfl (by kernel_rfl) (by kernel_rfl) (by kernel_rfl) (fun _ _ _ h => h) (Or.inl ⟨by rfl, ?_⟩) hHeld ?_
    rotate_left
    · (intro w hSw; (try dsimp only at hSw); go_simp; try with_reducible rfl)
    try simp only [Act.put, List.setIfInBounds_toArray, List.set_cons_zero, List.set_cons_succ, List.getElem_toArray, List.getElem_cons_zero, List.getElem_cons_succ]
    refine wpAnyH_take (i := 1) (v := ?_) rfl (by kernel_rfl) (by kernel_rfl) (by kernel_rfl) (fun _ _ _ h => h) (Or.inl ⟨by rfl, ?_⟩) hHeld ?_
    rotate_left
    · (intro w hSw; (try dsimp only at hSw); go_simp; try with_reducible rfl)
    try simp only [Act.put, List.setIfInBounds_toArray, List.set_cons_zero, List.set_cons_succ, List.getElem_toArray, List.getElem_cons_zero, List.getElem_cons_succ]
    refine wpAnyH_take (i := 2) (v := ?_) rfl (by kernel_rfl) (by kernel_rfl) (by kernel_rfl) (fun _ _ _ h => h) (Or.inl ⟨by rfl, ?_⟩) hHeld ?_
    rotate_left
    · (intro w hSw; (try dsimp only at hSw); have c1 : w.cell? ⟨b, 1, none⟩ = some (.int .i64 o) := (HK0.out.over hSw).cell 1; go_simp; try with_reducible rfl)
    try simp only [Act.put, List.setIfInBounds_toArray, List.set_cons_zero, List.set_cons_succ, List.getElem_toArray, List.getElem_cons_zero, List.getElem_cons_succ]
    refine wpAnyH_take (i := 4) (v := ?_) rfl (by kernel_rfl) (by kernel_rfl) (by kernel_rfl) (fun _ _ _ h => h) (Or.inl ⟨by rfl, ?_⟩) hHeld ?_
    rotate_left
    · (intro w hSw; (try dsimp only at hSw); go_simp; try with_reducible rfl)
    try simp only [Act.put, List.setIfInBounds_toArray, List.set_cons_zero, List.set_cons_succ, List.getElem_toArray, List.getElem_cons_zero, List.getElem_cons_succ]
    refine wpAnyH_take (i := 5) (v := ?_) rfl (by kernel_rfl) (by kernel_rfl) (by kernel_rfl) (fun _ _ _ h => h) (Or.inl ⟨by rfl, ?_⟩) hHeld ?_
    rotate_left
    · (intro w hSw; (try dsimp only at hSw); have c3 : w.cell? ⟨b, 3, none⟩ = some (.int .u64 v) := (HK0.out.over hSw).cell 3; go_simp; try with_reducible rfl)
    try simp only [Act.put, List.setIfInBounds_toArray, List.set_cons_zero, List.set_cons_succ, List.getElem_toArray, List.getElem_cons_zero, List.getElem_cons_succ]
    refine wpAnyH_ready (rs := [3]) (by kernel_rfl) (by simp) ?_
    refine AllReadyH.cons rfl (fun K hK => ?_) AllReadyH.nil
    go_simp
    refine (HSg.out _).mono ?_
    rintro e w5 ⟨rfl, b5⟩
    have O5 := owns_below (owns_below HO.out (Below.refl _ _).drew (Nat.le_refl _)) b5 (Nat.le_refl _)
    go_wp2_with fail
    refine hK.out _ _ (hHeld.trans (b5.mono hHeld.size)) (fun hHeld => ?_)
    clear hK K
    try simp only [Act.put, List.setIfInBounds_toArray, List.set_cons_zero, List.set_cons_succ, List.getElem_toArray, List.getElem_cons_zero, List.getElem_cons_succ]
    refine wpAnyH_ready (rs := [6]) (by kernel_rfl) (by simp) ?_
    refine AllReadyH.cons rfl (fun K hK => ?_) AllReadyH.nil
    go_simp
    refine (HDv.out _ (HT0.out.below hHeld)).mono ?_
    rintro e w6 ⟨rfl, b6⟩
    have O6 := owns_below O5 b6 (Nat.le_refl _)
    go_wp2_with fail
    refine hK.out _ _ (hHeld.trans (b6.mono hHeld.size)) (fun hHeld => ?_)
    clear hK K
    try simp only [Act.put, List.setIfInBounds_toArray, List.set_cons_zero, List.set_cons_succ, List.getElem_toArray, List.getElem_cons_zero, List.getElem_cons_succ]
    refine wpAnyH_ready (rs := [7]) (by kernel_rfl) (by simp) ?_
    refine AllReadyH.cons rfl (fun K hK => ?_) AllReadyH.nil
    go_simp
    have HA : Hid (App X.heap.size X (w6.alloc (Obj.cells #[.string (bar SG), .string (bar DV)] 9)) (.slice (some ⟨g1, 0, none⟩) 1 1) w6.heap.size 2 2 ([AD] ++ [SG, DV])) := app_two SG DV hHeld hHeld.size O6 HL.out
    clear O5 O6 b5 b6
    refine hK.out _ _ (hHeld.alloc hHeld.size _) (fun hHeld => ?_)
    clear hK K
    try simp only [Act.put, List.setIfInBounds_toArray, List.set_cons_zero, List.set_cons_succ, List.getElem_toArray, List.getElem_cons_zero, List.getElem_cons_succ]
    refine wpAnyH_ready (rs := [8]) (by kernel_rfl) (by simp) ?_
    refine AllReadyH.cons rfl (fun K hK => ?_) AllReadyH.nil
    refine AppG.step HA.out (.tmp 18) (.tmp 25) (by rfl) (by rfl) (by rfl) (by rfl) ?_
    intro v8 w8 h8 b8
    refine hK.out _ _ (b8) (fun hHeld => ?_)
    clear hK K
    try simp only [Act.put, List.setIfInBounds_toArray, List.set_cons_zero, List.set_cons_succ, List.getElem_toArray, List.getElem_cons_zero, List.getElem_cons_succ]
    refine wpAnyH_take (i := 9) (v := ?_) rfl (by kernel_rfl) (by kernel_rfl) (by kernel_rfl) (fun _ _ _ h => h) (Or.inl ⟨by rfl, ?_⟩) hHeld ?_
    rotate_left
    · (intro w hSw; (try dsimp only at hSw); go_simp; try with_reducible rfl)
    try simp only [Act.put, List.setIfInBounds_toArray, List.set_cons_zero, List.set_cons_succ, List.getElem_toArray, List.getElem_cons_zero, List.getElem_cons_succ]
    refine wpAnyH_done (by kernel_rfl) ?_ _
    go_wp2_with fail
    go_ret
    exact OUT.out _ _ _ h8 b8
  · generalize (w1.alloc (Obj.cells #[.string (bar AD)] 9)) = Y at *
    generalize w1.heap.size = g1 at *
    have HO : Hid (Y.ownsRow X.heap.size 9 1 (.slice (some ⟨g1, 0, none⟩) 1 1) [AD].length (cellsT' [AD])) := HO1.out
    clear HO1
    refine (HDm.out _ HT1.out).mono ?_
    rintro e w2 ⟨rfl, b2⟩
    have O2 := owns_below HO.out b2 (Nat.le_refl _)
    have HB2 : Hid (Below X.heap.size X w2) := HB1.out.trans (b2.mono HB1.out.size)
    have HK2 : Hid (Blk w2 w.heap.size 67 [.int .i64 a, .int .i64 o, .int .u64 m, .int .u64 v]) := HK1.out.over b2
    have HT2 : Hid (Tb T w2) := HT1.out.below b2
    have HA0 : Hid (App X.heap.size X (w2.alloc (Obj.cells #[.string (bar [38]), .string (bar DM)] 9)) (.slice (some ⟨g1, 0, none⟩) 1 1) w2.heap.size 2 2 ([AD] ++ [[38], DM])) := app_two [38] DM HB2.out HB2.out.size O2 (by simp)
    clear O2 b2 t2 HO
    go_wp2_with (at_builtin; refine AppG.list HA0.out (.tmp 12) (.tmp 16) rfl rfl rfl rfl ?_; intro va Y5 h5 b5)
    have HB : Hid (Below X.heap.size X Y5) := b5
    have HO : Hid (Y5.ownsRow X.heap.size 9 1 va ([AD] ++ [[38], DM]).length (cellsT' ([AD] ++ [[38], DM]))) := h5
    have HL : Hid (([AD] ++ [[38], DM]).length ≤ 1000) := by show ([AD] ++ [[38], DM]).length ≤ 1000; simp
    clear h5 b5 HA0 HK2 HT2 HB2 HK1 HT1 HB1 HDm
    clear Y
    generalize Y5 = Y at *
    generalize w.heap.size = b at *
    refine wp_region_held_drew (S := fun W => Below X.heap.size X W) (by kernel_rfl) (HB.out.drew) (fun hHeld => ?_)
    simp only [List.size_toArray, List.length_cons, List.length_nil, Nat.reduceAdd]
    refine wpAnyH_take (i := 0) (v := ?_) rfl (by kernel_rfl) (by kernel_rfl) (by kernel_rfl) (fun _ _ _ h => h) (Or.inl ⟨by rfl, ?_⟩) hHeld ?_
    rotate_left
    · (intro w hSw; (try dsimp only at hSw); go_simp; try with_reducible rfl)
    try simp only [Act.put, List.setIfInBounds_toArray, List.set_cons_zero, List.set_cons_succ, List.getElem_toArray, List.getElem_cons_zero, List.getElem_cons_succ]
    refine wpAnyH_take (i := 1) (v := ?_) rfl (by kernel_rfl) (by kernel_rfl) (by kernel_rfl) (fun _ _ _ h => h) (Or.inl ⟨by rfl, ?_⟩) hHeld ?_
    rotate_left
    · (intro w hSw; (try dsimp only at hSw); go_simp; try with_reducible rfl)
    try simp only [Act.put, List.setIfInBounds_toArray, List.set_cons_zero, List.set_cons_succ, List.getElem_toArray, List.getElem_cons_zero, List.getElem_cons_succ]
    refine wpAnyH_take (i := 2) (v := ?_) rfl (by kernel_rfl) (by kernel_rfl) (by kernel_rfl) (fun _ _ _ h => h) (Or.inl ⟨by rfl, ?_⟩) hHeld ?_
    rotate_left
    · (intro w hSw; (try dsimp only at hSw); have c1 : w.cell? ⟨b, 1, none⟩ = some (.int .i64 o) := (HK0.out.over hSw).cell 1; go_simp; try with_reducible rfl)
    try simp only [Act.put, List.setIfInBounds_toArray, List.set_cons_zero, List.set_cons_succ, List.getElem_toArray, List.getElem_cons_zero, List.getElem_cons_succ]
    refine wpAnyH_take (i := 4) (v := ?_) rfl (by kernel_rfl) (by kernel_rfl) (by kernel_rfl) (fun _ _ _ h => h) (Or.inl ⟨by rfl, ?_⟩) hHeld ?_
    rotate_left
    · (intro w hSw; (try dsimp only at hSw); go_simp; try with_reducible rfl)
    try simp only [Act.put, List.setIfInBounds_toArray, List.set_cons_zero, List.set_cons_succ, List.getElem_toArray, List.getElem_cons_zero, List.getElem_cons_succ]
    refine wpAnyH_take (i := 5) (v := ?_) rfl (by kernel_rfl) (by kernel_rfl) (by kernel_rfl) (fun _ _ _ h => h) (Or.inl ⟨by rfl, ?_⟩) hHeld ?_
    rotate_left
    · (intro w hSw; (try dsimp only at hSw); have c3 : w.cell? ⟨b, 3, none⟩ = some (.int .u64 v) := (HK0.out.over hSw).cell 3; go_simp; try with_reducible rfl)
    try simp only [Act.put, List.setIfInBounds_toArray, List.set_cons_zero, List.set_cons_succ, List.getElem_toArray, List.getElem_cons_zero, List.getElem_cons_succ]
    refine wpAnyH_ready (rs := [3]) (by kernel_rfl) (by simp) ?_
    refine AllReadyH.cons rfl (fun K hK => ?_) AllReadyH.nil
    go_simp
    refine (HSg.out _).mono ?_
    rintro e w5 ⟨rfl, b5⟩
    have O5 := owns_below (owns_below HO.out (Below.refl _ _).drew (Nat.le_refl _)) b5 (Nat.le_refl _)
    go_wp2_with fail
    refine hK.out _ _ (hHeld.trans (b5.mono hHeld.size)) (fun hHeld => ?_)
    clear hK K
    try simp only [Act.put, List.setIfInBounds_toArray, List.set_cons_zero, List.set_cons_succ, List.getElem_toArray, List.getElem_cons_zero, List.getElem_cons_succ]
    refine wpAnyH_ready (rs := [6]) (by kernel_rfl) (by simp) ?_
    refine AllReadyH.cons rfl (fun K hK => ?_) AllReadyH.nil
    go_simp
    refine (HDv.out _ (HT0.out.below hHeld)).mono ?_
    rintro e w6 ⟨rfl, b6⟩
    have O6 := owns_below O5 b6 (Nat.le_refl _)
    go_wp2_with fail
    refine hK.out _ _ (hHeld.trans (b6.mono hHeld.size)) (fun hHeld => ?_)
    clear hK K
    try simp only [Act.put, List.setIfInBounds_toArray, List.set_cons_zero, List.set_cons_succ, List.getElem_toArray, List.getElem_cons_zero, List.getElem_cons_succ]
    refine wpAnyH_ready (rs := [7]) (by kernel_rfl) (by simp) ?_
    refine AllReadyH.cons rfl (fun K hK => ?_) AllReadyH.nil
    go_simp
    have HA : Hid (App X.heap.size X (w6.alloc (Obj.cells #[.string (bar SG), .string (bar DV)] 9)) va w6.heap.size 2 2 (([AD] ++ [[38], DM]) ++ [SG, DV])) := app_two SG DV hHeld hHeld.size O6 HL.out
    clear O5 O6 b5 b6
    refine hK.out _ _ (hHeld.alloc hHeld.size _) (fun hHeld => ?_)
    clear hK K
    try simp only [Act.put, List.setIfInBounds_toArray, List.set_cons_zero, List.set_cons_succ, List.getElem_toArray, List.getElem_cons_zero, List.getElem_cons_succ]
    refine wpAnyH_ready (rs := [8]) (by kernel_rfl) (by simp) ?_
    refine AllReadyH.cons rfl (fun K hK => ?_) AllReadyH.nil
    refine AppG.step HA.out (.tmp 18) (.tmp 25) (by rfl) (by rfl) (by rfl) (by rfl) ?_
    intro v8 w8 h8 b8
    refine hK.out _ _ (b8) (fun hHeld => ?_)
    clear hK K
    try simp only [Act.put, List.setIfInBounds_toArray, List.set_cons_zero, List.set_cons_succ, List.getElem_toArray, List.getElem_cons_zero, List.getElem_cons_succ]
    refine wpAnyH_take (i := 9) (v := ?_) rfl (by kernel_rfl) (by kernel_rfl) (by kernel_rfl) (fun _ _ _ h => h) (Or.inl ⟨by rfl, ?_⟩) hHeld ?_
    rotate_left
    · (intro w hSw; (try dsimp only at hSw); go_simp; try with_reducible rfl)
    try simp only [Act.put, List.setIfInBounds_toArray, List.set_cons_zero, List.set_cons_succ, List.getElem_toArray, List.getElem_cons_zero, List.getElem_cons_succ]
    refine wpAnyH_done (by kernel_rfl) ?_ _
    go_wp2_with fail
    go_ret
    exact OUT.out _ _ _ h8 b8

end Go.Proofs.Ytcllgpbgikidjaa
