/-
  PSTx PSAll.
-/
import Derived.Test.YtcckipimfgmmdaaGreatDoorGs11
import Derived.Laws.Concat
import Derived.Test.YtcckipimfgmmdaaGreatDoorGs0
set_option maxHeartbeats 1000000
/-
 The words of acts and the signs of conditions.
-/
namespace Go.Proofs.YtcckipimfgmmdaaGreatDoor.P
open Go.RowKit
def wordS (k : Nat) : List UInt8 := [[], [107, 105, 108, 108], [116, 104, 114, 101, 97, 100], [116, 114, 97, 112], [101, 114, 114, 110, 111], [110, 111, 116, 105, 102, 121], [116, 114, 97, 99, 101], [108, 111, 103], [97, 108, 108, 111, 119]].getD k []
def signS (o : Nat) : List UInt8 := [[], [61, 61], [33, 61], [60], [60, 61], [62], [62, 61]].getD o []
theorem eight {k : Int} (h1 : 1 <= k) (h8 : k <= 8) : k = 1 \/ k = 2 \/ k = 3 \/ k = 4 \/ k = 5 \/ k = 6 \/ k = 7 \/ k = 8 := by omega
theorem six {k : Int} (h1 : 1 <= k) (h8 : k <= 6) : k = 1 \/ k = 2 \/ k = 3 \/ k = 4 \/ k = 5 \/ k = 6 := by omega
theorem wordOf_any (k : Int) (h1 : 1 <= k) (h8 : k <= 8) (w : World) : Calls Tryz.prog 228 #[.int .i64 k] w fun e w' => e = .returned (.string (bar (wordS k.toNat))) /\ Below w.heap.size w w' := by
 rcases eight h1 h8 with rfl | rfl | rfl | rfl | rfl | rfl | rfl | rfl
 all_goals
  go_enter Tryz.func228, Tryz.ntmps228
  go_wp2
  go_ret
  exact ⟨rfl, (Below.refl _ _).alloc (Nat.le_refl _) _⟩
theorem signOf_any (k : Int) (h1 : 1 <= k) (h8 : k <= 6) (w : World) : Calls Tryz.prog 233 #[.int .i64 k] w fun e w' => e = .returned (.string (bar (signS k.toNat))) /\ Below w.heap.size w w' := by
 rcases six h1 h8 with rfl | rfl | rfl | rfl | rfl | rfl
 all_goals
  go_enter Tryz.func233, Tryz.ntmps233
  go_wp2
  go_ret
  exact ⟨rfl, (Below.refl _ _).alloc (Nat.le_refl _) _⟩
end Go.Proofs.YtcckipimfgmmdaaGreatDoor.P
/-
 What is shown of words and acts, as texts.
-/
namespace Go.Proofs.YtcckipimfgmmdaaGreatDoor.P
open Go.RowKit
def cellsT' (l : List (List UInt8)) : List Value := l.map fun t => .string (bar t)
theorem cellsT'_append (a b : List (List UInt8)) : cellsT' (a ++ b) = cellsT' a ++ cellsT' b := by simp [cellsT']
theorem cellsT'_length (a : List (List UInt8)) : (cellsT' a).length = a.length := by simp [cellsT']
def Row (w w' : World) (e : Ending) (l : List (List UInt8)) : Prop := ∃ v, e = .returned v /\ w'.ownsRow w.heap.size 9 1 v l.length (cellsT' l) /\ Below w.heap.size w w'
theorem wordT_any (s : ByteArray) (w : World) : Calls Tryz.prog 226 #[.string s] w fun e w' => Row w w' e [lst s] := by
 have HO := owns_new (w := w) (base := w.heap.size) 9 [.string s] (Nat.le_refl _) (by simp) (by simp)
 go_enter Tryz.func226, Tryz.ntmps226
 go_wp2
 go_ret
 refine ⟨_, rfl, ?_, (Below.refl _ _).alloc (Nat.le_refl _) _⟩
 simp only [cellsT', List.map_cons, List.map_nil, bar_lst]
 exact HO
def AppG (t e : TypeId) (base : Nat) (w X : World) (v : Value) (g m c n : Nat) (xs : List Value) : Prop :=
 ∀ ty, ∃ v' w', (Builtin.append_ #[t, t] ty #[v, .slice (some ⟨g, 0, none⟩) m c]).run Tryz.prog X = .ok v' w' /\ w'.ownsRow base e 1 v' n xs /\ Below base w w'
theorem AppG.step {t e : TypeId} {base : Nat} {w X : World} {v : Value} {g m c n : Nat} {xs : List Value} (h0 : AppG t e base w X v g m c n xs) {ops : Array Oper} {o : Oper} {a : Act} {K : Act -> World -> Prop} {Q : Exit -> Act -> World -> Prop} {E : Prop} (s x : Operand) (hgd : o.guard = none)
  (ho : o.op = .call { callee := .builtin .append, args := #[s, x], argTypes := #[t, t] }) (hs : a.eval s = v) (hx : a.eval x = .slice (some ⟨g, 0, none⟩) m c)
  (h : ∀ v' w', w'.ownsRow base e 1 v' n xs -> Below base w w' -> K (a.put o.dst v') w') :
  if Region.wanted o (yielded ops a.tmps) = true then Oper.wp Tryz.prog o a X K Q else E := by
 have hw : Region.wanted o (yielded ops a.tmps) = true := by simp [Region.wanted, hgd]
 rw [if_pos hw]
 obtain ⟨v', w', hr, g1, g2⟩ := h0 o.type
 unfold Oper.wp execOp
 simp only [ho, resolve, invoke, builtin, Sem.run_bind, Sem.run_pure, Result.andThen_ok, List.map_toArray, List.map_cons, List.map_nil, hs, hx, hr]
 exact h v' w' g1 g2
theorem AppG.list {t e : TypeId} {base : Nat} {w X : World} {v : Value} {g m c n : Nat} {xs : List Value} (h0 : AppG t e base w X v g m c n xs) {ops : Array Oper} {rest : List Oper} {o : Oper} {a : Act} {Q : Exit -> Act -> World -> Prop} (s x : Operand) (hgd : o.guard = none)
  (ho : o.op = .call { callee := .builtin .append, args := #[s, x], argTypes := #[t, t] }) (hs : a.eval s = v) (hx : a.eval x = .slice (some ⟨g, 0, none⟩) m c)
  (h : ∀ v' w', w'.ownsRow base e 1 v' n xs -> Below base w w' -> wpList Tryz.prog ops Q rest (a.put o.dst v') w') : wpList Tryz.prog ops Q (o :: rest) a X := by
 refine wpList_plain hgd fun K hK => ?_
 obtain ⟨v', w', hr, g1, g2⟩ := h0 o.type
 unfold Oper.wp execOp
 simp only [ho, resolve, invoke, builtin, Sem.run_bind, Sem.run_pure, Result.andThen_ok, List.map_toArray, List.map_cons, List.map_nil, hs, hx, hr]
 exact hK _ _ (h v' w' g1 g2)
def App (base : Nat) (w X : World) (v : Value) (g m c : Nat) (l : List (List UInt8)) : Prop := AppG 22 9 base w X v g m c l.length (cellsT' l)
theorem app_mk {base : Nat} {w X : World} {v : Value} {g m c : Nat} {l : List (List UInt8)} (ms : List (List UInt8)) (hm : ms.length = m) (hb : Below base w X) (hB : base <= X.heap.size) (ho : X.ownsRow base 9 1 v l.length (cellsT' l)) (hc : ∀ j u, (cellsT' ms)[j]? = some u -> X.cell? ⟨g, j, none⟩ = some u) (hl : l.length + m <= 1000000) : App base w X v g m c (l ++ ms) := by
 intro ty
 obtain ⟨i0, hi, hz0, hz1, hz2⟩ := info_parts Tryz.infoB
 obtain ⟨v', w', hr, g1, g2, _⟩ := run_append_own (P := Tryz.prog) X base 22 ty 9 i0 _ 1 16 Tryz.underlying22 hi hz0 hz1 hz2 rfl (by decide) v l.length (cellsT' l) ho ⟨g, 0, none⟩ m c (cellsT' ms) (by rw [cellsT'_length, hm]; omega) (fun j u hu => by
  rw [show (⟨g, 0, none⟩ : Addr).add j = ⟨g, j, none⟩ from by unfold Addr.add; split <;> simp_all]
  exact hc j u hu) (by intro u hu; simp [cellsT'] at hu; obtain ⟨y, _, rfl⟩ := hu; rfl) (by unfold maxLen; omega) (by omega) hB
 refine ⟨v', w', hr, ?_, below_grown hb ho g2 hB⟩
 rw [List.length_append, hm, cellsT'_append]
 exact g1
theorem app_one {base : Nat} {w W : World} {v : Value} {l : List (List UInt8)} (t : List UInt8) (hb : Below base w W) (hB : base <= W.heap.size) (ho : W.ownsRow base 9 1 v l.length (cellsT' l)) (hl : l.length <= 1000) : App base w (W.alloc (Obj.cells #[.string (bar t)] 9)) v W.heap.size 1 1 (l ++ [t]) := by
 have b1 : Below W.heap.size W (W.alloc (Obj.cells #[.string (bar t)] 9)) := (Below.refl _ _).alloc (Nat.le_refl _) _
 refine app_mk [t] rfl (hb.alloc hB _) (by rw [size_alloc']; omega) (owns_below ho b1 (Nat.le_refl _)) (fun j u hu => ?_) (by omega)
 rw [(blk_new W #[.string (bar t)] 9).cell j]
 exact hu
theorem app_two {base : Nat} {w W : World} {v : Value} {l : List (List UInt8)} (t u : List UInt8) (hb : Below base w W) (hB : base <= W.heap.size) (ho : W.ownsRow base 9 1 v l.length (cellsT' l)) (hl : l.length <= 1000) : App base w (W.alloc (Obj.cells #[.string (bar t), .string (bar u)] 9)) v W.heap.size 2 2 (l ++ [t, u]) := by
 have b1 : Below W.heap.size W (W.alloc (Obj.cells #[.string (bar t), .string (bar u)] 9)) := (Below.refl _ _).alloc (Nat.le_refl _) _
 refine app_mk [t, u] rfl (hb.alloc hB _) (by rw [size_alloc']; omega) (owns_below ho b1 (Nat.le_refl _)) (fun j z hz => ?_) (by omega)
 rw [(blk_new W #[.string (bar t), .string (bar u)] 9).cell j]
 exact hz
def actT (T : List Int) (k a : Int) : List (List UInt8) := wordS k.toNat :: (if hasN k then [dec T a.toNat] else [])
theorem actT_any (T : List Int) (k a : Int) (h1 : 1 <= k) (h8 : k <= 8) (ha : 0 <= a) (ha2 : a <= 65535) (w : World) (ht : Tb T w) :
  Calls Tryz.prog 227 #[.agg #[.int .i64 k, .int .i64 a]] w fun e w' => Row w w' e (actT T k a) := by
 have be : Below w.heap.size w (w.alloc (Obj.cells #[.int .i64 k, .int .i64 a] 97)) := (Below.refl _ _).alloc (Nat.le_refl _) _
 have BE : Hid (Below w.heap.size w (w.alloc (Obj.cells #[.int .i64 k, .int .i64 a] 97))) := be
 have HK : Hid (Blk (w.alloc (Obj.cells #[.int .i64 k, .int .i64 a] 97)) w.heap.size 97 [.int .i64 k, .int .i64 a]) := blk_new w _ _
 have HT : Hid (Tb T (w.alloc (Obj.cells #[.int .i64 k, .int .i64 a] 97))) := ht.below be
 have HW : Hid (∀ W, Calls Tryz.prog 228 #[.int .i64 k] W fun e w' => e = .returned (.string (bar (wordS k.toNat))) /\ Below W.heap.size W w') := wordOf_any k h1 h8
 have HI : Hid (∀ W, Tb T W -> Calls Tryz.prog 194 #[.int .i64 a] W fun e w' => e = .returned (.string (bar (dec T a.toNat))) /\ Below W.heap.size W w') := by
  intro W hW
  obtain ⟨n, rfl⟩ : ∃ n : Nat, a = n := ⟨a.toNat, by omega⟩
  exact itoa_any T n (by omega) W hW
 have HN : Hid (∀ W, Calls Tryz.prog 229 #[.int .i64 k] W fun e w' => e = .returned (.bool (hasN k)) /\ w' = W) := hasNum_any k
 clear be ht h1 h8 ha ha2
 unfold actT
 generalize wordS k.toNat = WS at *
 generalize dec T a.toNat = DA at *
 generalize hasN k = HN' at *
 rcases Bool.eq_false_or_eq_true HN' with rfl | rfl
 all_goals
  first | rw [if_pos rfl] | rw [if_neg (by decide)]
  go_enter Tryz.func227, Tryz.ntmps227
  go_wp2_with fail
  generalize (w.alloc (Obj.cells #[.int .i64 k, .int .i64 a] 97)) = X at *
  refine (HW.out _).mono ?_
  rintro e w1 ⟨rfl, b1⟩
  have HB1 : Hid (Below w.heap.size w w1) := BE.out.trans (b1.mono BE.out.size)
  have HO : Hid ((w1.alloc (Obj.cells #[.string (bar WS)] 9)).ownsRow w.heap.size 9 1 (.slice (some ⟨w1.heap.size, 0, none⟩) 1 1) 1 [.string (bar WS)]) := owns_new (w := w1) (base := w.heap.size) 9 [.string (bar WS)] HB1.out.size (by simp) (by simp)
  have b2 : Below X.heap.size X (w1.alloc (Obj.cells #[.string (bar WS)] 9)) := b1.alloc b1.size _
  have HB2 : Hid (Below w.heap.size w (w1.alloc (Obj.cells #[.string (bar WS)] 9))) := HB1.out.alloc HB1.out.size _
  have HK2 : Hid (Blk (w1.alloc (Obj.cells #[.string (bar WS)] 9)) w.heap.size 97 [.int .i64 k, .int .i64 a]) := HK.out.over b2
  have HT2 : Hid (Tb T (w1.alloc (Obj.cells #[.string (bar WS)] 9))) := HT.out.below b2
  have t0 : (w1.alloc (Obj.cells #[.string (bar WS)] 9)).cell? ⟨w.heap.size, 0, none⟩ = some (.int .i64 k) := HK2.out.cell 0
  have t1 : (w1.alloc (Obj.cells #[.string (bar WS)] 9)).cell? ⟨w.heap.size, 1, none⟩ = some (.int .i64 a) := HK2.out.cell 1
  clear b1 b2 HB1
  go_wp2_with fail
  generalize (w1.alloc (Obj.cells #[.string (bar WS)] 9)) = Y at *
  generalize w1.heap.size = g at *
  refine (HN.out _).mono ?_
  rintro e w2 ⟨rfl, hw2⟩
  subst w2
 ·go_wp2_with fail
  refine (HI.out _ HT2.out).mono ?_
  rintro e w3 ⟨rfl, b3⟩
  have HB3 : Hid (Below w.heap.size w w3) := HB2.out.trans (b3.mono HB2.out.size)
  have O3 := owns_below HO.out b3 (Nat.le_refl _)
  have HA : Hid (App w.heap.size w (w3.alloc (Obj.cells #[.string (bar DA)] 9)) (.slice (some ⟨g, 0, none⟩) 1 1) w3.heap.size 1 1 ([WS] ++ [DA])) := app_one (l := [WS]) DA HB3.out HB3.out.size O3 (by simp)
  clear O3 b3
  go_wp2_with (at_builtin; refine AppG.list HA.out (.tmp 11) (.tmp 15) rfl rfl rfl rfl ?_; intro v' w5 h5 b5)
  go_ret
  exact ⟨_, rfl, h5, b5⟩
 ·go_wp2_with fail
  go_ret
  exact ⟨_, rfl, HO.out, HB2.out⟩
end Go.Proofs.YtcckipimfgmmdaaGreatDoor.P
/-
 Names as texts, each but the last with its comma.
-/
namespace Go.Proofs.YtcckipimfgmmdaaGreatDoor.P
open Go.RowKit
def comma (s : ByteArray) : List UInt8 := lst s ++ [44]
def namesT : List ByteArray -> List (List UInt8)
 | [] => []
 | [s] => [lst s]
 | s :: r => comma s :: namesT r
theorem namesT_snoc : ∀ (l : List ByteArray) (s : ByteArray), namesT (l ++ [s]) = l.map comma ++ [lst s] := by
 intro l
 induction l with
 | nil => intro s; rfl
 | cons x l ih =>
  intro s
  cases l with
  | nil => rfl
  | cons y l =>
   show comma x :: namesT (y :: l ++ [s]) = _
   rw [ih s]
   rfl
theorem namesT_at {ns : List ByteArray} {i : Nat} (h : i + 1 = ns.length) : namesT ns = (ns.take i).map comma ++ [lst (ns[i]'(by omega))] := by
 have e : ns = ns.take i ++ [ns[i]'(by omega)] := by
  rw [<- List.take_succ_eq_append_getElem (by omega), h, List.take_length]
 conv => lhs; rw [e]
 exact namesT_snoc _ _
theorem comma_eq (s : ByteArray) : s ++ ⟨#[44]⟩ = bar (comma s) := by
 apply ByteArray.ext
 show (s ++ (⟨#[44]⟩ : ByteArray)).data = (lst s ++ [44]).toArray
 rw [ByteArray.data_append]
 apply Array.ext'
 simp [lst]
theorem namesT_any (w : World) (v : Value) (ns : List ByteArray) (h : StrR w v ns) (h1 : 1 <= ns.length) (h16 : ns.length <= 16) (hs : ∀ s ∈ ns, s.size <= 100000) :
  Calls Tryz.prog 230 #[v] w fun e w' => Row w w' e (namesT ns) := by
 obtain ⟨p1, c1, rfl⟩ : ∃ p c, v = .slice p ns.length c := by obtain ⟨p, c, e, _⟩ := h; exact ⟨p, c, e⟩
 obtain ⟨hcap, hcm⟩ : ns.length <= c1 /\ c1 <= 9223372036854775807 := by obtain ⟨p, c, e, g1, g2, _⟩ := h; cases e; exact ⟨g1, g2⟩
 obtain ⟨b, o, rfl⟩ : ∃ b o, p1 = some ⟨b, o, none⟩ := by obtain ⟨b, o, e, _⟩ := strR_at h (i := 0) (by omega); exact ⟨b, o, e⟩
 obtain ⟨n, hn⟩ : ∃ n, ns.length = n + 1 := ⟨ns.length - 1, by omega⟩
 have HS : Hid (StrR w (.slice (some ⟨b, o, none⟩) ns.length c1) ns) := h
 have HZ : Hid (∀ s ∈ ns, s.size <= 100000) := hs
 have HN : Hid (ns.length = n + 1) := hn
 have hn16 : n <= 15 := by omega
 have hncap : n + 1 <= c1 := by omega
 clear h hs hcap
 rw [hn]
 clear hn h1 h16
 go_enter Tryz.func230, Tryz.ntmps230
 go_wp2
 go_loopw [3, 14] (fun v3 vi wr => ∃ (va : Value) (i : Nat), va = v3 /\ vi = .int .i64 i /\ i <= n /\ wr.ownsRow w.heap.size 9 1 va ((ns.take i).map comma).length (cellsT' ((ns.take i).map comma)) /\ Below w.heap.size w wr) (fun _ vi _ => n - (intOf vi).toNat)
 case atStart => exact ⟨_, 0, rfl, rfl, Nat.zero_le _, World.ownsRow_nil _ _ _ _, Below.refl _ _⟩
 case round =>
  obtain ⟨va, i, rfl, rfl, hi, ho, hb⟩ := hrel
  have HB : Hid (Below w.heap.size w wr) := hb
  have hlt' : i < ns.length := by have := HN.out; omega
  obtain ⟨b1, o1, e0, e1⟩ := strR_at (HS.out.below hb) hlt'
  cases e0
  have hz : ns[i].size <= 100000 := HZ.out _ (List.getElem_mem hlt')
  have hlen : ((ns.take i).map comma).length <= 1000 := by simp; omega
  have HA : Hid (App w.heap.size w (wr.alloc (Obj.cells #[.string (bar (comma ns[i]))] 9)) va wr.heap.size 1 1 ((ns.take i).map comma ++ [comma ns[i]])) := app_one (comma ns[i]) hb hb.size ho hlen
  have HA2 : Hid (App w.heap.size w (wr.alloc (Obj.cells #[.string ns[i]] 9)) va wr.heap.size 1 1 ((ns.take i).map comma ++ [lst ns[i]])) := by
   have := app_one (lst ns[i]) hb hb.size ho hlen
   rw [bar_lst] at this
   exact this
  have HT : Hid ((ns.take (i + 1)).map comma = (ns.take i).map comma ++ [comma ns[i]]) := by
   show (ns.take (i + 1)).map comma = _
   rw [List.take_succ_eq_append_getElem hlt', List.map_append]
   rfl
  have HE : Hid (i = n -> namesT ns = (ns.take i).map comma ++ [lst ns[i]]) := fun e => namesT_at (by have := HN.out; omega)
  have hcm' := comma_eq ns[i]
  clear hb ho hlen
  generalize ns[i] = x at *
  by_cases hlt : i < n
  ·have hi1 : (i : Int) < (n : Int) := by omega
   have hi2 : (i : Int) < (n : Int) + 1 := by omega
   clear HA2 HE
   go_wp2_with (at_builtin; refine AppG.list HA.out (.tmp 18) (.tmp 21) rfl rfl rfl rfl ?_; intro v' w5 h5 b5)
   go_roundw
   case rel => exact ⟨_, i + 1, rfl, by go_num, hlt, by rw [HT.out]; exact h5, b5⟩
   case measure => simp [intOf]; omega
  ·obtain rfl : i = n := by omega
   have hge : ¬ (i : Int) < (i : Int) := by omega
   clear HA
   go_wp2_with (at_builtin; refine AppG.list HA2.out (.tmp 24) (.tmp 29) rfl rfl rfl rfl ?_; intro v' w5 h5 b5)
   go_ret
   exact ⟨_, rfl, by rw [HE.out trivial]; exact h5, b5⟩
end Go.Proofs.YtcckipimfgmmdaaGreatDoor.P
/-
 A condition as texts.
-/
namespace Go.Proofs.YtcckipimfgmmdaaGreatDoor.P
open Go.RowKit
def condT (T : List Int) (x : Xc) : List (List UInt8) := ([97, 114, 103] ++ dec T x.arg.toNat) :: ((if x.mask == 18446744073709551615 then [] else [[38], dec T x.mask.toNat]) ++ [signS x.op.toNat, dec T x.val.toNat])
theorem bar_append (a b : List UInt8) : bar a ++ bar b = bar (a ++ b) := by
 apply ByteArray.ext
 show (bar a ++ bar b).data = (a ++ b).toArray
 rw [ByteArray.data_append]
 apply Array.ext'
 simp [bar]
set_option linter.unusedSimpArgs false in
theorem condT_any (T : List Int) (x : Xc) (h1 : 0 <= x.arg) (h2 : x.arg < 6) (h3 : 1 <= x.op) (h4 : x.op <= 6) (h5 : 0 <= x.mask) (h6 : x.mask < 18446744073709551616) (h7 : 0 <= x.val) (h8 : x.val < 18446744073709551616) (w : World) (ht : Tb T w) :
  Calls Tryz.prog 231 #[.agg #[.int .i64 x.arg, .int .i64 x.op, .int .u64 x.mask, .int .u64 x.val]] w fun e w' => Row w w' e (condT T x) := by
 obtain ⟨a, o, m, v⟩ := x
 unfold condT
 dsimp only at h1 h2 h3 h4 h5 h6 h7 h8 ⊢
 have be : Below w.heap.size w (w.alloc (Obj.cells #[.int .i64 a, .int .i64 o, .int .u64 m, .int .u64 v] 140)) := (Below.refl _ _).alloc (Nat.le_refl _) _
 have BE : Hid (Below w.heap.size w (w.alloc (Obj.cells #[.int .i64 a, .int .i64 o, .int .u64 m, .int .u64 v] 140))) := be
 have HK0 : Hid (Blk (w.alloc (Obj.cells #[.int .i64 a, .int .i64 o, .int .u64 m, .int .u64 v] 140)) w.heap.size 140 [.int .i64 a, .int .i64 o, .int .u64 m, .int .u64 v]) := blk_new w _ _
 have HT0 : Hid (Tb T (w.alloc (Obj.cells #[.int .i64 a, .int .i64 o, .int .u64 m, .int .u64 v] 140))) := ht.below be
 have HI : Hid (∀ W, Tb T W -> Calls Tryz.prog 194 #[.int .i64 a] W fun e w' => e = .returned (.string (bar (dec T a.toNat))) /\ Below W.heap.size W w') := by
  intro W hW
  obtain ⟨n, rfl⟩ : ∃ n : Nat, a = n := ⟨a.toNat, by omega⟩
  exact itoa_any T n (by omega) W hW
 have HDm : Hid (∀ W, Tb T W -> Calls Tryz.prog 232 #[.int .u64 m] W fun e w' => e = .returned (.string (bar (dec T m.toNat))) /\ Below W.heap.size W w') := by
  intro W hW
  obtain ⟨n, rfl⟩ : ∃ n : Nat, m = n := ⟨m.toNat, by omega⟩
  exact decimal_any T n (by omega) W hW
 have HDv : Hid (∀ W, Tb T W -> Calls Tryz.prog 232 #[.int .u64 v] W fun e w' => e = .returned (.string (bar (dec T v.toNat))) /\ Below W.heap.size W w') := by
  intro W hW
  obtain ⟨n, rfl⟩ : ∃ n : Nat, v = n := ⟨v.toNat, by omega⟩
  exact decimal_any T n (by omega) W hW
 have HSg : Hid (∀ W, Calls Tryz.prog 233 #[.int .i64 o] W fun e w' => e = .returned (.string (bar (signS o.toNat))) /\ Below W.heap.size W w') := signOf_any o h3 h4
 have HLn : (dec T a.toNat).length <= 100 := dec_len T a.toNat (by omega)
 clear be ht h1 h2 h3 h4 h7 h8
 generalize dec T a.toNat = DA at *
 generalize dec T m.toNat = DM at *
 generalize dec T v.toNat = DV at *
 generalize signS o.toNat = SG at *
 have hcat : (⟨#[97, 114, 103]⟩ : ByteArray) ++ bar DA = bar ([97, 114, 103] ++ DA) := bar_append [97, 114, 103] DA
 have hsz : (bar DA).size <= 100 := by rw [bar_size]; exact HLn
 generalize [97, 114, 103] ++ DA = AD at *
 clear HLn
 have OUT : Hid (∀ (w' : World) (u : Value) (l : List (List UInt8)), w'.ownsRow (w.alloc (Obj.cells #[.int .i64 a, .int .i64 o, .int .u64 m, .int .u64 v] 140)).heap.size 9 1 u l.length (cellsT' l) -> Below (w.alloc (Obj.cells #[.int .i64 a, .int .i64 o, .int .u64 m, .int .u64 v] 140)).heap.size (w.alloc (Obj.cells #[.int .i64 a, .int .i64 o, .int .u64 m, .int .u64 v] 140)) w' -> Row w w' (.returned u) l) := fun w' u l h1 h2 => ⟨u, rfl, owns_lower h1 BE.out.size, BE.out.trans (h2.mono BE.out.size)⟩
 rcases Bool.eq_false_or_eq_true (m == 18446744073709551615) with hm | hm
 all_goals
  rw [hm]
  first | rw [if_pos rfl] | rw [if_neg (by decide)]
  have hm' : (m != 18446744073709551615) = !(m == 18446744073709551615) := rfl
  rw [hm] at hm'
  go_enter Tryz.func231, Tryz.ntmps231
  go_wp2_with fail
  generalize (w.alloc (Obj.cells #[.int .i64 a, .int .i64 o, .int .u64 m, .int .u64 v] 140)) = X at *
  refine (HI.out _ HT0.out).mono ?_
  rintro e w1 ⟨rfl, b1⟩
  have HO1 : Hid ((w1.alloc (Obj.cells #[.string (bar AD)] 9)).ownsRow X.heap.size 9 1 (.slice (some ⟨w1.heap.size, 0, none⟩) 1 1) 1 [.string (bar AD)]) := owns_new (w := w1) (base := X.heap.size) 9 [.string (bar AD)] b1.size (by simp) (by simp)
  have HB1 : Hid (Below X.heap.size X (w1.alloc (Obj.cells #[.string (bar AD)] 9))) := b1.alloc b1.size _
  have t2 : (w1.alloc (Obj.cells #[.string (bar AD)] 9)).cell? ⟨w.heap.size, 2, none⟩ = some (.int .u64 m) := (HK0.out.over HB1.out).cell 2
  have HK1 : Hid (Blk (w1.alloc (Obj.cells #[.string (bar AD)] 9)) w.heap.size 140 [.int .i64 a, .int .i64 o, .int .u64 m, .int .u64 v]) := HK0.out.over HB1.out
  have HT1 : Hid (Tb T (w1.alloc (Obj.cells #[.string (bar AD)] 9))) := HT0.out.below HB1.out
  clear b1 HI
  go_wp2_with fail
 ·generalize (w1.alloc (Obj.cells #[.string (bar AD)] 9)) = Y at *
  generalize w1.heap.size = g1 at *
  have HO : Hid (Y.ownsRow X.heap.size 9 1 (.slice (some ⟨g1, 0, none⟩) 1 1) [AD].length (cellsT' [AD])) := HO1.out
  have HL : Hid ([AD].length <= 1000) := by show [AD].length <= 1000; simp
  clear HO1 HDm t2
  have HB : Hid (Below X.heap.size X Y) := HB1.out
  clear HK1 HT1 HB1
  generalize w.heap.size = b at *
  refine wp_region_held_drew (S := fun W => Below X.heap.size X W) (by kernel_rfl) (HB.out.drew) (fun hHeld => ?_)
  simp only [List.size_toArray, List.length_cons, List.length_nil, Nat.reduceAdd]
  refine tk 0 ?_ hHeld ?_ ?_
  rotate_left
  ·(intro w hSw; (try dsimp only at hSw); go_simp; try with_reducible rfl)
  try simp only [Act.put, zA, zB, zC, zD, zE, zF]
  refine tk 1 ?_ hHeld ?_ ?_
  rotate_left
  ·(intro w hSw; (try dsimp only at hSw); go_simp; try with_reducible rfl)
  try simp only [Act.put, zA, zB, zC, zD, zE, zF]
  refine tk 2 ?_ hHeld ?_ ?_
  rotate_left
  ·(intro w hSw; (try dsimp only at hSw); have c1 : w.cell? ⟨b, 1, none⟩ = some (.int .i64 o) := (HK0.out.over hSw).cell 1; go_simp; try with_reducible rfl)
  try simp only [Act.put, zA, zB, zC, zD, zE, zF]
  refine tk 4 ?_ hHeld ?_ ?_
  rotate_left
  ·(intro w hSw; (try dsimp only at hSw); go_simp; try with_reducible rfl)
  try simp only [Act.put, zA, zB, zC, zD, zE, zF]
  refine tk 5 ?_ hHeld ?_ ?_
  rotate_left
  ·(intro w hSw; (try dsimp only at hSw); have c3 : w.cell? ⟨b, 3, none⟩ = some (.int .u64 v) := (HK0.out.over hSw).cell 3; go_simp; try with_reducible rfl)
  try simp only [Act.put, zA, zB, zC, zD, zE, zF]
  refine wpAnyH_ready (rs := [3]) (by kernel_rfl) (by simp) ?_
  refine AllReadyH.cons rfl (fun K hK => ?_) AllReadyH.nil
  go_simp
  refine (HSg.out _).mono ?_
  rintro e w5 ⟨rfl, b5⟩
  have O5 := owns_below (owns_below HO.out (Below.refl _ _).drew (Nat.le_refl _)) b5 (Nat.le_refl _)
  go_wp2_with fail
  refine hK.out _ _ (hHeld.trans (b5.mono hHeld.size)) (fun hHeld => ?_)
  clear hK K
  try simp only [Act.put, zA, zB, zC, zD, zE, zF]
  refine wpAnyH_ready (rs := [6]) (by kernel_rfl) (by simp) ?_
  refine AllReadyH.cons rfl (fun K hK => ?_) AllReadyH.nil
  go_simp
  refine (HDv.out _ (HT0.out.below hHeld)).mono ?_
  rintro e w6 ⟨rfl, b6⟩
  have O6 := owns_below O5 b6 (Nat.le_refl _)
  go_wp2_with fail
  refine hK.out _ _ (hHeld.trans (b6.mono hHeld.size)) (fun hHeld => ?_)
  clear hK K
  try simp only [Act.put, zA, zB, zC, zD, zE, zF]
  refine wpAnyH_ready (rs := [7]) (by kernel_rfl) (by simp) ?_
  refine AllReadyH.cons rfl (fun K hK => ?_) AllReadyH.nil
  go_simp
  have HA : Hid (App X.heap.size X (w6.alloc (Obj.cells #[.string (bar SG), .string (bar DV)] 9)) (.slice (some ⟨g1, 0, none⟩) 1 1) w6.heap.size 2 2 ([AD] ++ [SG, DV])) := app_two SG DV hHeld hHeld.size O6 HL.out
  clear O5 O6 b5 b6
  refine hK.out _ _ (hHeld.alloc hHeld.size _) (fun hHeld => ?_)
  clear hK K
  try simp only [Act.put, zA, zB, zC, zD, zE, zF]
  refine wpAnyH_ready (rs := [8]) (by kernel_rfl) (by simp) ?_
  refine AllReadyH.cons rfl (fun K hK => ?_) AllReadyH.nil
  refine AppG.step HA.out (.tmp 18) (.tmp 25) (by rfl) (by rfl) (by rfl) (by rfl) ?_
  intro v8 w8 h8 b8
  refine hK.out _ _ (b8) (fun hHeld => ?_)
  clear hK K
  try simp only [Act.put, zA, zB, zC, zD, zE, zF]
  refine tk 9 ?_ hHeld ?_ ?_
  rotate_left
  ·(intro w hSw; (try dsimp only at hSw); go_simp; try with_reducible rfl)
  try simp only [Act.put, zA, zB, zC, zD, zE, zF]
  refine wpAnyH_done (by kernel_rfl) ?_ _
  go_wp2_with fail
  go_ret
  exact OUT.out _ _ _ h8 b8
 ·generalize (w1.alloc (Obj.cells #[.string (bar AD)] 9)) = Y at *
  generalize w1.heap.size = g1 at *
  have HO : Hid (Y.ownsRow X.heap.size 9 1 (.slice (some ⟨g1, 0, none⟩) 1 1) [AD].length (cellsT' [AD])) := HO1.out
  clear HO1
  refine (HDm.out _ HT1.out).mono ?_
  rintro e w2 ⟨rfl, b2⟩
  have O2 := owns_below HO.out b2 (Nat.le_refl _)
  have HB2 : Hid (Below X.heap.size X w2) := HB1.out.trans (b2.mono HB1.out.size)
  have HK2 : Hid (Blk w2 w.heap.size 140 [.int .i64 a, .int .i64 o, .int .u64 m, .int .u64 v]) := HK1.out.over b2
  have HT2 : Hid (Tb T w2) := HT1.out.below b2
  have HA0 : Hid (App X.heap.size X (w2.alloc (Obj.cells #[.string (bar [38]), .string (bar DM)] 9)) (.slice (some ⟨g1, 0, none⟩) 1 1) w2.heap.size 2 2 ([AD] ++ [[38], DM])) := app_two [38] DM HB2.out HB2.out.size O2 (by simp)
  clear O2 b2 t2 HO
  go_wp2_with (at_builtin; refine AppG.list HA0.out (.tmp 12) (.tmp 16) rfl rfl rfl rfl ?_; intro va Y5 h5 b5)
  have HB : Hid (Below X.heap.size X Y5) := b5
  have HO : Hid (Y5.ownsRow X.heap.size 9 1 va ([AD] ++ [[38], DM]).length (cellsT' ([AD] ++ [[38], DM]))) := h5
  have HL : Hid (([AD] ++ [[38], DM]).length <= 1000) := by show ([AD] ++ [[38], DM]).length <= 1000; simp
  clear h5 b5 HA0 HK2 HT2 HB2 HK1 HT1 HB1 HDm
  clear Y
  generalize Y5 = Y at *
  generalize w.heap.size = b at *
  refine wp_region_held_drew (S := fun W => Below X.heap.size X W) (by kernel_rfl) (HB.out.drew) (fun hHeld => ?_)
  simp only [List.size_toArray, List.length_cons, List.length_nil, Nat.reduceAdd]
  refine tk 0 ?_ hHeld ?_ ?_
  rotate_left
  ·(intro w hSw; (try dsimp only at hSw); go_simp; try with_reducible rfl)
  try simp only [Act.put, zA, zB, zC, zD, zE, zF]
  refine tk 1 ?_ hHeld ?_ ?_
  rotate_left
  ·(intro w hSw; (try dsimp only at hSw); go_simp; try with_reducible rfl)
  try simp only [Act.put, zA, zB, zC, zD, zE, zF]
  refine tk 2 ?_ hHeld ?_ ?_
  rotate_left
  ·(intro w hSw; (try dsimp only at hSw); have c1 : w.cell? ⟨b, 1, none⟩ = some (.int .i64 o) := (HK0.out.over hSw).cell 1; go_simp; try with_reducible rfl)
  try simp only [Act.put, zA, zB, zC, zD, zE, zF]
  refine tk 4 ?_ hHeld ?_ ?_
  rotate_left
  ·(intro w hSw; (try dsimp only at hSw); go_simp; try with_reducible rfl)
  try simp only [Act.put, zA, zB, zC, zD, zE, zF]
  refine tk 5 ?_ hHeld ?_ ?_
  rotate_left
  ·(intro w hSw; (try dsimp only at hSw); have c3 : w.cell? ⟨b, 3, none⟩ = some (.int .u64 v) := (HK0.out.over hSw).cell 3; go_simp; try with_reducible rfl)
  try simp only [Act.put, zA, zB, zC, zD, zE, zF]
  refine wpAnyH_ready (rs := [3]) (by kernel_rfl) (by simp) ?_
  refine AllReadyH.cons rfl (fun K hK => ?_) AllReadyH.nil
  go_simp
  refine (HSg.out _).mono ?_
  rintro e w5 ⟨rfl, b5⟩
  have O5 := owns_below (owns_below HO.out (Below.refl _ _).drew (Nat.le_refl _)) b5 (Nat.le_refl _)
  go_wp2_with fail
  refine hK.out _ _ (hHeld.trans (b5.mono hHeld.size)) (fun hHeld => ?_)
  clear hK K
  try simp only [Act.put, zA, zB, zC, zD, zE, zF]
  refine wpAnyH_ready (rs := [6]) (by kernel_rfl) (by simp) ?_
  refine AllReadyH.cons rfl (fun K hK => ?_) AllReadyH.nil
  go_simp
  refine (HDv.out _ (HT0.out.below hHeld)).mono ?_
  rintro e w6 ⟨rfl, b6⟩
  have O6 := owns_below O5 b6 (Nat.le_refl _)
  go_wp2_with fail
  refine hK.out _ _ (hHeld.trans (b6.mono hHeld.size)) (fun hHeld => ?_)
  clear hK K
  try simp only [Act.put, zA, zB, zC, zD, zE, zF]
  refine wpAnyH_ready (rs := [7]) (by kernel_rfl) (by simp) ?_
  refine AllReadyH.cons rfl (fun K hK => ?_) AllReadyH.nil
  go_simp
  have HA : Hid (App X.heap.size X (w6.alloc (Obj.cells #[.string (bar SG), .string (bar DV)] 9)) va w6.heap.size 2 2 (([AD] ++ [[38], DM]) ++ [SG, DV])) := app_two SG DV hHeld hHeld.size O6 HL.out
  clear O5 O6 b5 b6
  refine hK.out _ _ (hHeld.alloc hHeld.size _) (fun hHeld => ?_)
  clear hK K
  try simp only [Act.put, zA, zB, zC, zD, zE, zF]
  refine wpAnyH_ready (rs := [8]) (by kernel_rfl) (by simp) ?_
  refine AllReadyH.cons rfl (fun K hK => ?_) AllReadyH.nil
  refine AppG.step HA.out (.tmp 18) (.tmp 25) (by rfl) (by rfl) (by rfl) (by rfl) ?_
  intro v8 w8 h8 b8
  refine hK.out _ _ (b8) (fun hHeld => ?_)
  clear hK K
  try simp only [Act.put, zA, zB, zC, zD, zE, zF]
  refine tk 9 ?_ hHeld ?_ ?_
  rotate_left
  ·(intro w hSw; (try dsimp only at hSw); go_simp; try with_reducible rfl)
  try simp only [Act.put, zA, zB, zC, zD, zE, zF]
  refine wpAnyH_done (by kernel_rfl) ?_ _
  go_wp2_with fail
  go_ret
  exact OUT.out _ _ _ h8 b8
theorem all_step {α : Type} {p : α -> Bool} {l : List α} {i : Nat} (h : i < l.length) (hp : p l[i] = true) (ht : (l.take i).all p = true) : (l.take (i + 1)).all p = true := by
 rw [List.take_succ_eq_append_getElem h, List.all_append, ht]
 simp [hp]
theorem all_stop {α : Type} {p : α -> Bool} {l : List α} {i : Nat} (h : i < l.length) (hp : p l[i] = false) : l.all p = false := by
 rw [List.all_eq_false]
 exact ⟨l[i], List.getElem_mem h, by simp [hp]⟩
theorem all_end {α : Type} {p : α -> Bool} {l : List α} {i : Nat} (h : ¬ i < l.length) (ht : (l.take i).all p = true) : l.all p = true := by
 rw [List.take_of_length_le (by omega)] at ht
 exact ht
theorem allS_any (w : World) (v : Value) (l : List ByteArray) (h : StrR w v l) (hl : l.length <= 1000) :
  Calls Tryz.prog 99 #[v, .func (.func 100) #[] #[]] w fun e w' => e = .returned (.bool (l.all fun s => isWd (lst s))) /\ Below w.heap.size w w' := by
 obtain ⟨p1, c1, rfl⟩ : ∃ p c, v = .slice p l.length c := by obtain ⟨p, c, e, _⟩ := h; exact ⟨p, c, e⟩
 have S1 : Hid (StrR w (.slice p1 l.length c1) l) := h
 have HI : Hid (∀ s W, Calls Tryz.prog 100 #[.string s] W fun e w' => e = .returned (.bool (isWd (lst s))) /\ Below W.heap.size W w') := is_any
 clear h
 generalize hR : (l.all fun s => isWd (lst s)) = R
 have HR : Hid ((l.all fun s => isWd (lst s)) = R) := hR
 clear hR
 go_enter Tryz.func99, Tryz.ntmps99
 go_wp2
 go_loopw [9] (fun vi wr => ∃ i : Nat, vi = .int .i64 i /\ i <= l.length /\ ((l.take i).all fun s => isWd (lst s)) = true /\ Below w.heap.size w wr) (fun vi _ => l.length - (intOf vi).toNat)
 case atStart => exact ⟨0, rfl, Nat.zero_le _, rfl, Below.refl _ _⟩
 case round =>
  obtain ⟨i, rfl, hi, ht, hb⟩ := hrel
  have HT : Hid (((l.take i).all fun s => isWd (lst s)) = true) := ht
  have HB : Hid (Below w.heap.size w wr) := hb
  clear ht
  by_cases hlt : i < l.length
  ·have hi1 : (i : Int) < (l.length : Int) := by omega
   obtain ⟨b1, o1, rfl, e1⟩ := strR_at (S1.out.below hb) hlt
   have HX : Hid (Calls Tryz.prog 100 #[.string l[i]] wr fun e w' => e = .returned (.bool (isWd (lst l[i]))) /\ Below wr.heap.size wr w') := HI.out _ _
   have HS : Hid (isWd (lst l[i]) = true -> ((l.take (i + 1)).all fun s => isWd (lst s)) = true) := fun hq => all_step (p := fun s => isWd (lst s)) hlt hq HT.out
   have HF : Hid (isWd (lst l[i]) = false -> R = false) := fun hq => HR.out.symm.trans (all_stop (p := fun s => isWd (lst s)) hlt hq)
   generalize l[i] = x at *
   clear hb
   rcases Bool.eq_false_or_eq_true (isWd (lst x)) with hq | hq
   ·go_wp2_with (go_at_call 100; refine HX.out.mono ?_; rintro e w1 ⟨rfl, b1⟩; rw [hq])
    go_roundw
    case rel => exact ⟨i + 1, by go_num, hlt, HS.out hq, HB.out.trans (b1.mono HB.out.size)⟩
    case measure => simp [intOf]; omega
   ·go_wp2_with (go_at_call 100; refine HX.out.mono ?_; rintro e w1 ⟨rfl, b1⟩; rw [hq])
    go_ret
    exact ⟨ret_bool (HF.out hq).symm, HB.out.trans (b1.mono HB.out.size)⟩
  ·have hge : ¬ (i : Int) < (l.length : Int) := by omega
   clear hb
   go_wp2
   go_ret
   exact ⟨ret_bool (by rw [<- HR.out]; exact (all_end hlt HT.out).symm), HB.out⟩
theorem allC_any (w : World) (v : Value) (l : List Xc) (h : CdR w v l) (hl : l.length <= 1000) :
  Calls Tryz.prog 101 #[v, .func (.func 102) #[] #[]] w fun e w' => e = .returned (.bool (l.all condB)) /\ Below w.heap.size w w' := by
 obtain ⟨p1, c1, rfl⟩ : ∃ p c, v = .slice p l.length c := by obtain ⟨p, c, e, _⟩ := h; exact ⟨p, c, e⟩
 have S1 : Hid (CdR w (.slice p1 l.length c1) l) := h
 clear h
 generalize hR : (l.all condB) = R
 have HR : Hid ((l.all condB) = R) := hR
 clear hR
 go_enter Tryz.func101, Tryz.ntmps101
 go_wp2
 go_loopw [9] (fun vi wr => ∃ i : Nat, vi = .int .i64 i /\ i <= l.length /\ ((l.take i).all condB) = true /\ Below w.heap.size w wr) (fun vi _ => l.length - (intOf vi).toNat)
 case atStart => exact ⟨0, rfl, Nat.zero_le _, rfl, Below.refl _ _⟩
 case round =>
  obtain ⟨i, rfl, hi, ht, hb⟩ := hrel
  have HT : Hid (((l.take i).all condB) = true) := ht
  have HB : Hid (Below w.heap.size w wr) := hb
  clear ht
  by_cases hlt : i < l.length
  ·have hi1 : (i : Int) < (l.length : Int) := by omega
   obtain ⟨b1, o1, rfl, e1⟩ := cdR_at (S1.out.below hb) hlt
   have HX : Hid (∀ W, Calls Tryz.prog 102 #[.agg #[.int .i64 l[i].arg, .int .i64 l[i].op, .int .u64 l[i].mask, .int .u64 l[i].val]] W fun e w' => e = .returned (.bool (condB l[i])) /\ Below W.heap.size W w') := condR_any _
   have HS : Hid (condB l[i] = true -> ((l.take (i + 1)).all condB) = true) := fun hq => all_step hlt hq HT.out
   have HF : Hid (condB l[i] = false -> R = false) := fun hq => HR.out.symm.trans (all_stop hlt hq)
   have BE : Hid (Below w.heap.size w (wr.alloc (Obj.cells #[.int .i64 l[i].arg, .int .i64 l[i].op, .int .u64 l[i].mask, .int .u64 l[i].val] 139))) := HB.out.alloc HB.out.size _
   generalize l[i] = x at *
   obtain ⟨q0, q1, q2, q3⟩ := e1
   clear hb
   rcases Bool.eq_false_or_eq_true (condB x) with hq | hq
   ·go_wp2_with (go_at_call 102; refine (HX.out _).mono ?_; rintro e w1 ⟨rfl, b1⟩; rw [hq])
    go_roundw
    case rel => exact ⟨i + 1, by go_num, hlt, HS.out hq, BE.out.trans (b1.mono BE.out.size)⟩
    case measure => simp [intOf]; omega
   ·go_wp2_with (go_at_call 102; refine (HX.out _).mono ?_; rintro e w1 ⟨rfl, b1⟩; rw [hq])
    go_ret
    exact ⟨ret_bool (HF.out hq).symm, BE.out.trans (b1.mono BE.out.size)⟩
  ·have hge : ¬ (i : Int) < (l.length : Int) := by omega
   clear hb
   go_wp2
   go_ret
   exact ⟨ret_bool (by rw [<- HR.out]; exact (all_end hlt HT.out).symm), HB.out⟩
def ruleB (x : Xl) : Bool := decide (1 <= x.names.length) && decide (x.names.length <= 16) && decide (x.conds.length <= 8) && (actB x.k x.a && x.names.all (fun s => isWd (lst s)) && x.conds.all condB)
theorem ruleB_mk {x : Xl} (h1 : 1 <= x.names.length) (h2 : x.names.length <= 16) (h3 : x.conds.length <= 8) : ruleB x = (actB x.k x.a && x.names.all (fun s => isWd (lst s)) && x.conds.all condB) := by
 unfold ruleB
 rw [decide_eq_true h1, decide_eq_true h2, decide_eq_true h3]
 rfl
theorem ruleB_no {x : Xl} (h : x.names.length < 1 \/ 16 < x.names.length \/ 8 < x.conds.length) : ruleB x = false := by
 unfold ruleB
 rcases h with h | h | h
 ·rw [decide_eq_false (by omega : ¬ 1 <= x.names.length)]; rfl
 ·rw [decide_eq_false (by omega : ¬ x.names.length <= 16)]; simp
 ·rw [decide_eq_false (by omega : ¬ x.conds.length <= 8)]; simp
theorem rightRule_any (w : World) (x : Xr) (hn : StrR w x.vn x.r.names) (hc : CdR w x.vc x.r.conds) (h1 : x.r.names.length <= 9000000) (h2 : x.r.conds.length <= 9000000) :
  Calls Tryz.prog 60 #[.agg #[.int .i64 x.r.k, .int .i64 x.r.a, x.vn, x.vc]] w fun e w' => e = .returned (.bool (ruleB x.r)) /\ Below w.heap.size w w' := by
 obtain ⟨⟨k, a, ns, cs⟩, vn, vc⟩ := x
 dsimp only at hn hc h1 h2 ⊢
 obtain ⟨p1, c1, rfl⟩ : ∃ p c, vn = .slice p ns.length c := by obtain ⟨p, c, e, _⟩ := hn; exact ⟨p, c, e⟩
 obtain ⟨p2, c2, rfl⟩ : ∃ p c, vc = .slice p cs.length c := by obtain ⟨p, c, e, _⟩ := hc; exact ⟨p, c, e⟩
 have be : Below w.heap.size w (w.alloc (Obj.cells #[.int .i64 k, .int .i64 a, .slice p1 ns.length c1, .slice p2 cs.length c2] 87)) := (Below.refl _ _).alloc (Nat.le_refl _) _
 have K0 := blk_new w #[.int .i64 k, .int .i64 a, .slice p1 ns.length c1, .slice p2 cs.length c2] 87
 have BE : Hid (Below w.heap.size w (w.alloc (Obj.cells #[.int .i64 k, .int .i64 a, .slice p1 ns.length c1, .slice p2 cs.length c2] 87))) := be
 have HK : Hid (Blk (w.alloc (Obj.cells #[.int .i64 k, .int .i64 a, .slice p1 ns.length c1, .slice p2 cs.length c2] 87)) w.heap.size 87 [.int .i64 k, .int .i64 a, .slice p1 ns.length c1, .slice p2 cs.length c2]) := K0
 have SN : Hid (StrR (w.alloc (Obj.cells #[.int .i64 k, .int .i64 a, .slice p1 ns.length c1, .slice p2 cs.length c2] 87)) (.slice p1 ns.length c1) ns) := hn.below be
 have SC : Hid (CdR (w.alloc (Obj.cells #[.int .i64 k, .int .i64 a, .slice p1 ns.length c1, .slice p2 cs.length c2] 87)) (.slice p2 cs.length c2) cs) := hc.below be
 clear hn hc K0 be
 by_cases g1 : ns.length < 1
 ·have HE : Hid (ruleB ⟨k, a, ns, cs⟩ = false) := ruleB_no (.inl g1)
  have hd : decide ((ns.length : Int) < 1) = true := decide_eq_true (by omega)
  have hd' : (ns.length : Int) < 1 := by omega
  clear g1 SN SC HK
  go_enter Tryz.func60, Tryz.ntmps60
  go_wp2
  go_ret
  exact ⟨ret_bool HE.out.symm, BE.out⟩
 ·have hd : decide ((ns.length : Int) < 1) = false := decide_eq_false (by omega)
  have hd' : ¬ (ns.length : Int) < 1 := by omega
  by_cases g2 : 16 < ns.length
  ·have HE : Hid (ruleB ⟨k, a, ns, cs⟩ = false) := ruleB_no (.inr (.inl g2))
   have hd2 : decide (16 < (ns.length : Int)) = true := decide_eq_true (by omega)
   clear SN SC HK
   go_enter Tryz.func60, Tryz.ntmps60
   go_wp2
   go_ret
   exact ⟨ret_bool HE.out.symm, BE.out⟩
  ·have hd2 : decide (16 < (ns.length : Int)) = false := decide_eq_false (by omega)
   by_cases g3 : 8 < cs.length
   ·have HE : Hid (ruleB ⟨k, a, ns, cs⟩ = false) := ruleB_no (.inr (.inr g3))
    have hd3 : decide (8 < (cs.length : Int)) = true := decide_eq_true (by omega)
    clear SN SC HK
    go_enter Tryz.func60, Tryz.ntmps60
    go_wp2
    go_ret
    exact ⟨ret_bool HE.out.symm, BE.out⟩
   ·have hd3 : decide (8 < (cs.length : Int)) = false := decide_eq_false (by omega)
    have HE : Hid (ruleB ⟨k, a, ns, cs⟩ = (actB k a && ns.all (fun s => isWd (lst s)) && cs.all condB)) := ruleB_mk (x := ⟨k, a, ns, cs⟩) (by show 1 <= ns.length; omega) (by show ns.length <= 16; omega) (by show cs.length <= 8; omega)
    have HNS : Hid (ns.length <= 1000) := by show ns.length <= 1000; omega
    have HCS : Hid (cs.length <= 1000) := by show cs.length <= 1000; omega
    have HA : Hid (∀ W, Calls Tryz.prog 27 #[.agg #[.int .i64 k, .int .i64 a]] W fun e w' => e = .returned (.bool (actB k a)) /\ Below W.heap.size W w') := actR_any k a
    have HB : Hid (∀ W, StrR W (.slice p1 ns.length c1) ns -> Calls Tryz.prog 99 #[.slice p1 ns.length c1, .func (.func 100) #[] #[]] W fun e w' => e = .returned (.bool (ns.all fun s => isWd (lst s))) /\ Below W.heap.size W w') := fun W h => allS_any W _ ns h HNS.out
    have HC : Hid (∀ W, CdR W (.slice p2 cs.length c2) cs -> Calls Tryz.prog 101 #[.slice p2 cs.length c2, .func (.func 102) #[] #[]] W fun e w' => e = .returned (.bool (cs.all condB)) /\ Below W.heap.size W w') := fun W h => allC_any W _ cs h HCS.out
    generalize (ns.all fun s => isWd (lst s)) = RN at *
    generalize cs.all condB = RC at *
    generalize actB k a = RA at *
    clear HNS HCS g1 g2 g3 h1 h2
    rcases Bool.eq_false_or_eq_true RA with rfl | rfl
    ·rcases Bool.eq_false_or_eq_true RN with rfl | rfl
     all_goals
      go_enter Tryz.func60, Tryz.ntmps60
      go_wp2_with fail
      generalize (w.alloc (Obj.cells #[.int .i64 k, .int .i64 a, .slice p1 ns.length c1, .slice p2 cs.length c2] 87)) = X at *
      refine (HA.out _).mono ?_
      rintro e w1 ⟨rfl, b1⟩
      have t2 : w1.cell? ⟨w.heap.size, 2, none⟩ = some (.slice p1 ns.length c1) := (HK.out.over b1).cell 2
      go_wp2_with fail
      refine (HB.out _ (SN.out.below b1)).mono ?_
      rintro e w2 ⟨rfl, b2⟩
      have HB2 : Hid (Below X.heap.size X w2) := b1.trans (b2.mono b1.size)
      clear t2 b1 b2
      have t3 : w2.cell? ⟨w.heap.size, 3, none⟩ = some (.slice p2 cs.length c2) := (HK.out.over HB2.out).cell 3
     ·go_wp2_with fail
      refine (HC.out _ (SC.out.below HB2.out)).mono ?_
      rintro e w3 ⟨rfl, b3⟩
      go_wp2_with fail
      go_ret
      exact ⟨ret_bool (by rw [HE.out]; rfl), BE.out.trans ((HB2.out.trans (b3.mono HB2.out.size)).mono BE.out.size)⟩
     ·go_wp2_with fail
      go_ret
      exact ⟨ret_bool (by rw [HE.out]; rfl), BE.out.trans (HB2.out.mono BE.out.size)⟩
    ·go_enter Tryz.func60, Tryz.ntmps60
     go_wp2_with fail
     generalize (w.alloc (Obj.cells #[.int .i64 k, .int .i64 a, .slice p1 ns.length c1, .slice p2 cs.length c2] 87)) = X at *
     refine (HA.out _).mono ?_
     rintro e w1 ⟨rfl, b1⟩
     go_wp2_with fail
     go_ret
     exact ⟨ret_bool (by rw [HE.out]; rfl), BE.out.trans (b1.mono BE.out.size)⟩
theorem allR_any (w : World) (v : Value) (l : List Xr) (h : RlR w v l) (hl : l.length <= 1000) (hs : ∀ x ∈ l, x.r.names.length <= 9000000 /\ x.r.conds.length <= 9000000) :
  Calls Tryz.prog 59 #[v, .func (.func 60) #[] #[]] w fun e w' => e = .returned (.bool (l.all fun x => ruleB x.r)) /\ Below w.heap.size w w' := by
 obtain ⟨p1, c1, rfl⟩ : ∃ p c, v = .slice p l.length c := by obtain ⟨p, c, e, _⟩ := h; exact ⟨p, c, e⟩
 have S1 : Hid (RlR w (.slice p1 l.length c1) l) := h
 have HM : Hid (∀ x ∈ l, x.r.names.length <= 9000000 /\ x.r.conds.length <= 9000000) := hs
 clear h hs
 generalize hR : (l.all fun x => ruleB x.r) = R
 have HR : Hid ((l.all fun x => ruleB x.r) = R) := hR
 clear hR
 go_enter Tryz.func59, Tryz.ntmps59
 go_wp2
 go_loopw [9] (fun vi wr => ∃ i : Nat, vi = .int .i64 i /\ i <= l.length /\ ((l.take i).all fun x => ruleB x.r) = true /\ Below w.heap.size w wr) (fun vi _ => l.length - (intOf vi).toNat)
 case atStart => exact ⟨0, rfl, Nat.zero_le _, rfl, Below.refl _ _⟩
 case round =>
  obtain ⟨i, rfl, hi, ht, hb⟩ := hrel
  have HT : Hid (((l.take i).all fun x => ruleB x.r) = true) := ht
  have HB : Hid (Below w.heap.size w wr) := hb
  clear ht
  by_cases hlt : i < l.length
  ·have hi1 : (i : Int) < (l.length : Int) := by omega
   obtain ⟨b1, o1, rfl, e1⟩ := rlR_at (S1.out.below hb) hlt
   have hmem : l[i] ∈ l := List.getElem_mem hlt
   have HX : Hid (∀ W, Below w.heap.size w W -> Calls Tryz.prog 60 #[.agg #[.int .i64 l[i].r.k, .int .i64 l[i].r.a, l[i].vn, l[i].vc]] W fun e w' => e = .returned (.bool (ruleB l[i].r)) /\ Below W.heap.size W w') := fun W hW => by
    obtain ⟨_, _, _, _, _, _, hr⟩ := S1.out.below hW
    exact rightRule_any W l[i] (hr _ hmem).1 (hr _ hmem).2 (HM.out _ hmem).1 (HM.out _ hmem).2
   have HS : Hid (ruleB l[i].r = true -> ((l.take (i + 1)).all fun x => ruleB x.r) = true) := fun hq => all_step (p := fun x => ruleB x.r) hlt hq HT.out
   have HF : Hid (ruleB l[i].r = false -> R = false) := fun hq => HR.out.symm.trans (all_stop (p := fun x => ruleB x.r) hlt hq)
   obtain ⟨p3, n3, c3, e3⟩ : ∃ p n c, l[i].vn = .slice p n c := by obtain ⟨_, _, _, _, _, _, hr⟩ := S1.out; obtain ⟨p, c, e, _⟩ := (hr _ hmem).1; exact ⟨p, _, c, e⟩
   obtain ⟨p4, n4, c4, e4⟩ : ∃ p n c, l[i].vc = .slice p n c := by obtain ⟨_, _, _, _, _, _, hr⟩ := S1.out; obtain ⟨p, c, e, _⟩ := (hr _ hmem).2; exact ⟨p, _, c, e⟩
   clear hmem
   generalize l[i] = x at *
   obtain ⟨⟨k, a, ns, cs⟩, vn, vc⟩ := x
   obtain ⟨q0, q1, q2, q3⟩ := e1
   dsimp only at q0 q1 q2 q3 HX HS HF e3 e4
   subst e3 e4
   have BE : Hid (Below w.heap.size w (wr.alloc (Obj.cells #[.int .i64 k, .int .i64 a, .slice p3 n3 c3, .slice p4 n4 c4] 87))) := HB.out.alloc HB.out.size _
   clear hb
   generalize ruleB ⟨k, a, ns, cs⟩ = RB at *
   rcases Bool.eq_false_or_eq_true RB with rfl | rfl
   ·go_wp2_with (go_at_call 60; refine (HX.out _ BE.out).mono ?_; rintro e w1 ⟨rfl, b1⟩)
    go_roundw
    case rel => exact ⟨i + 1, by go_num, hlt, HS.out trivial, BE.out.trans (b1.mono BE.out.size)⟩
    case measure => simp [intOf]; omega
   ·go_wp2_with (go_at_call 60; refine (HX.out _ BE.out).mono ?_; rintro e w1 ⟨rfl, b1⟩)
    go_ret
    exact ⟨ret_bool (HF.out trivial).symm, BE.out.trans (b1.mono BE.out.size)⟩
  ·have hge : ¬ (i : Int) < (l.length : Int) := by omega
   clear hb
   go_wp2
   go_ret
   exact ⟨ret_bool (by rw [<- HR.out]; exact (all_end hlt HT.out).symm), HB.out⟩
def rulesB (k a : Int) (l : List Xl) : Bool := actB k a && decide (l.length <= 64) && l.all ruleB
theorem right_any (w : World) (k a : Int) (v : Value) (l : List Xr) (h : RlR w v l) (hl : l.length <= 1000) (hs : ∀ x ∈ l, x.r.names.length <= 9000000 /\ x.r.conds.length <= 9000000) :
  Calls Tryz.prog 31 #[.agg #[.int .i64 k, .int .i64 a, v]] w fun e w' => e = .returned (.bool (rulesB k a (l.map Xr.r))) /\ Below w.heap.size w w' := by
 obtain ⟨p1, c1, rfl⟩ : ∃ p c, v = .slice p l.length c := by obtain ⟨p, c, e, _⟩ := h; exact ⟨p, c, e⟩
 have be : Below w.heap.size w (w.alloc (Obj.cells #[.int .i64 k, .int .i64 a, .slice p1 l.length c1] 39)) := (Below.refl _ _).alloc (Nat.le_refl _) _
 have BE : Hid (Below w.heap.size w (w.alloc (Obj.cells #[.int .i64 k, .int .i64 a, .slice p1 l.length c1] 39))) := be
 have HK : Hid (Blk (w.alloc (Obj.cells #[.int .i64 k, .int .i64 a, .slice p1 l.length c1] 39)) w.heap.size 39 [.int .i64 k, .int .i64 a, .slice p1 l.length c1]) := blk_new w _ _
 have SN : Hid (RlR (w.alloc (Obj.cells #[.int .i64 k, .int .i64 a, .slice p1 l.length c1] 39)) (.slice p1 l.length c1) l) := h.below be
 have HA : Hid (∀ W, Calls Tryz.prog 27 #[.agg #[.int .i64 k, .int .i64 a]] W fun e w' => e = .returned (.bool (actB k a)) /\ Below W.heap.size W w') := actR_any k a
 have HB : Hid (∀ W, RlR W (.slice p1 l.length c1) l -> Calls Tryz.prog 59 #[.slice p1 l.length c1, .func (.func 60) #[] #[]] W fun e w' => e = .returned (.bool (l.all fun x => ruleB x.r)) /\ Below W.heap.size W w') := fun W h => allR_any W _ l h hl hs
 have HE : Hid (rulesB k a (l.map Xr.r) = (actB k a && decide (l.length <= 64) && l.all fun x => ruleB x.r)) := by
  show rulesB k a (l.map Xr.r) = _
  unfold rulesB
  rw [List.length_map, List.all_map]
  rfl
 clear h be hs
 generalize (l.all fun x => ruleB x.r) = RN at *
 generalize actB k a = RA at *
 rcases Bool.eq_false_or_eq_true RA with rfl | rfl
 ·by_cases g1 : l.length <= 64
  ·have hd : decide ((l.length : Int) <= 64) = true := decide_eq_true (by omega)
   have HD : Hid (decide (l.length <= 64) = true) := decide_eq_true g1
   go_enter Tryz.func31, Tryz.ntmps31
   go_wp2_with fail
   generalize (w.alloc (Obj.cells #[.int .i64 k, .int .i64 a, .slice p1 l.length c1] 39)) = X at *
   refine (HA.out _).mono ?_
   rintro e w1 ⟨rfl, b1⟩
   have t2 : w1.cell? ⟨w.heap.size, 2, none⟩ = some (.slice p1 l.length c1) := (HK.out.over b1).cell 2
   go_wp2_with fail
   refine (HB.out _ (SN.out.below b1)).mono ?_
   rintro e w2 ⟨rfl, b2⟩
   go_wp2_with fail
   go_ret
   exact ⟨ret_bool (by rw [HE.out, HD.out]; rfl), BE.out.trans ((b1.trans (b2.mono b1.size)).mono BE.out.size)⟩
  ·have hd : decide ((l.length : Int) <= 64) = false := decide_eq_false (by omega)
   have HD : Hid (decide (l.length <= 64) = false) := decide_eq_false g1
   go_enter Tryz.func31, Tryz.ntmps31
   go_wp2_with fail
   generalize (w.alloc (Obj.cells #[.int .i64 k, .int .i64 a, .slice p1 l.length c1] 39)) = X at *
   refine (HA.out _).mono ?_
   rintro e w1 ⟨rfl, b1⟩
   have t2 : w1.cell? ⟨w.heap.size, 2, none⟩ = some (.slice p1 l.length c1) := (HK.out.over b1).cell 2
   go_wp2_with fail
   go_ret
   exact ⟨ret_bool (by rw [HE.out, HD.out]; rfl), BE.out.trans (b1.mono BE.out.size)⟩
 ·go_enter Tryz.func31, Tryz.ntmps31
  go_wp2_with fail
  generalize (w.alloc (Obj.cells #[.int .i64 k, .int .i64 a, .slice p1 l.length c1] 39)) = X at *
  refine (HA.out _).mono ?_
  rintro e w1 ⟨rfl, b1⟩
  go_wp2_with fail
  go_ret
  exact ⟨ret_bool (by rw [HE.out]; rfl), BE.out.trans (b1.mono BE.out.size)⟩
end Go.Proofs.YtcckipimfgmmdaaGreatDoor.P
