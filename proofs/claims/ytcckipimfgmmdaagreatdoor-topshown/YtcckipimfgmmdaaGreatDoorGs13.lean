/-
  PSLn.
-/
import Derived.Test.YtcckipimfgmmdaaGreatDoorGs12
set_option maxHeartbeats 1000000
/-
 A line of what is shown.
-/
namespace Go.Proofs.YtcckipimfgmmdaaGreatDoor.P
open Go.RowKit
abbrev Sh := Sum (ByteArray) (Sum (Int × Int) (Sum (Value × List ByteArray) ((Xc))))
abbrev Sh.wd (s : ByteArray) : Sh := .inl s
abbrev Sh.ac (k : Int) (a : Int) : Sh := .inr (.inl (k, a))
abbrev Sh.nm (v : Value) (ns : List ByteArray) : Sh := .inr (.inr (.inl (v, ns)))
abbrev Sh.cd (x : Xc) : Sh := .inr (.inr (.inr x))
theorem Sh.every {motive : Sh -> Prop} (wd : ∀ s : ByteArray, motive (Sh.wd s)) (ac : ∀ k : Int, ∀ a : Int, motive (Sh.ac k a)) (nm : ∀ v : Value, ∀ ns : List ByteArray, motive (Sh.nm v ns)) (cd : ∀ x : Xc, motive (Sh.cd x)) : ∀ s : Sh, motive s
 | .inl s => wd s
 | .inr (.inl (k, a)) => ac k a
 | .inr (.inr (.inl (v, ns))) => nm v ns
 | .inr (.inr (.inr x)) => cd x
def Sh.val : Sh -> Value
 | .inl s => .iface 96 (.string s)
 | .inr (.inl (k, a)) => .iface 97 (.agg #[.int .i64 k, .int .i64 a])
 | .inr (.inr (.inl (v, _))) => .iface 137 v
 | .inr (.inr (.inr x)) => .iface 140 (.agg #[.int .i64 x.arg, .int .i64 x.op, .int .u64 x.mask, .int .u64 x.val])
def Sh.ok (W : World) : Sh -> Prop
 | .inl _ => True
 | .inr (.inl (k, a)) => 1 <= k /\ k <= 8 /\ 0 <= a /\ a <= 65535
 | .inr (.inr (.inl (v, ns))) => StrR W v ns /\ 1 <= ns.length /\ ns.length <= 16 /\ ∀ s ∈ ns, s.size <= 100000
 | .inr (.inr (.inr x)) => 0 <= x.arg /\ x.arg < 6 /\ 1 <= x.op /\ x.op <= 6 /\ 0 <= x.mask /\ x.mask < 18446744073709551616 /\ 0 <= x.val /\ x.val < 18446744073709551616
def Sh.txt (T : List Int) : Sh -> List (List UInt8)
 | .inl s => [lst s]
 | .inr (.inl (k, a)) => actT T k a
 | .inr (.inr (.inl (_, ns))) => namesT ns
 | .inr (.inr (.inr x)) => condT T x
theorem Sh.ok.below {x : Sh} {W W' : World} (h : x.ok W) (hb : Below W.heap.size W W') : x.ok W' := by
 cases x using Sh.every with
 | wd s => exact h
 | ac k a => exact h
 | nm v ns => exact ⟨h.1.below hb, h.2⟩
 | cd x => exact h
theorem namesT_length : ∀ (l : List ByteArray), (namesT l).length = l.length := by
 intro l
 induction l with
 | nil => rfl
 | cons x l ih =>
  cases l with
  | nil => rfl
  | cons y l => show (comma x :: namesT (y :: l)).length = _; rw [List.length_cons, ih]; rfl
theorem Sh.txt_len {x : Sh} {W : World} (T : List Int) (h : x.ok W) : 1 <= (x.txt T).length /\ (x.txt T).length <= 16 := by
 cases x using Sh.every with
 | wd s => exact ⟨Nat.le_refl 1, show 1 <= 16 by decide⟩
 | ac k a => show 1 <= (actT T k a).length /\ (actT T k a).length <= 16; unfold actT; split <;> simp
 | nm v ns => show 1 <= (namesT ns).length /\ (namesT ns).length <= 16; rw [namesT_length]; exact ⟨h.2.1, h.2.2.1⟩
 | cd x => show 1 <= (condT T x).length /\ (condT T x).length <= 16; unfold condT; split <;> simp
def flat (T : List Int) (l : List Sh) : List (List UInt8) := l.flatMap (Sh.txt T)
def lineT (T : List Int) (l : List Sh) : List UInt8 := Lib.join (flat T l) [32] ++ [59, 10]
theorem flat_step {T : List Int} {l : List Sh} {i : Nat} (h : i < l.length) : flat T (l.take (i + 1)) = flat T (l.take i) ++ (l[i]).txt T := by
 unfold flat
 rw [List.take_succ_eq_append_getElem h, List.flatMap_append]
 simp
theorem flat_len {T : List Int} {W : World} : ∀ (l : List Sh), (∀ x ∈ l, x.ok W) -> (flat T l).length <= l.length * 16 := by
 intro l
 induction l with
 | nil => intro _; exact Nat.le_refl _
 | cons x l ih =>
  intro h
  have h1 := (Sh.txt_len T (h x List.mem_cons_self)).2
  have h2 := ih fun y hy => h y (List.mem_cons_of_mem _ hy)
  show (x.txt T ++ flat T l).length <= _
  rw [List.length_append, List.length_cons]
  omega
theorem wpList_invoke {ops : Array Oper} {rest : List Oper} {o : Oper} {a : Act} {w : World} {Q : Exit -> Act -> World -> Prop} (hgd : o.guard = none) (r : Operand) (name : String)
  (ho : o.op = .call { callee := .invoke r name, args := #[], argTypes := #[] }) (t : TypeId) (x : Value) (hr : a.eval r = .iface t x) (f : FuncId)
  (hin : ∀ W, (invoke (.fn (.method name) #[]) #[.iface t x]).run Tryz.prog W = .ok (.enter f #[x]) W) {R : Ending -> World -> Prop} (hc : Calls Tryz.prog f #[x] w R)
  (h : ∀ e w', R e w' -> ∃ v, e = .returned v /\ wpList Tryz.prog ops Q rest (a.put o.dst v) w') : wpList Tryz.prog ops Q (o :: rest) a w := by
 refine wpList_plain hgd fun K hK => ?_
 unfold Oper.wp execOp
 rw [ho]
 simp only [resolve, Sem.run_bind, Sem.run_pure, Result.andThen_ok, List.map_toArray, List.map_nil, hr, hin, Array.append_empty]
 rw [Oper.upon_enter]
 refine hc.mono ?_
 intro e w' hR
 obtain ⟨v, rfl, hv⟩ := h e w' hR
 exact hK _ _ hv
theorem at_opS {ops : Array Oper} {rest : List Oper} {o : Oper} {a : Act} {w : World} {Q : Exit -> Act -> World -> Prop} (p : Op) (_ : o.op = p) (h : wpList Tryz.prog ops Q (o :: rest) a w) : wpList Tryz.prog ops Q (o :: rest) a w := h
theorem inv_wd (x : Value) (W : World) : (invoke (.fn (.method "fairlead/show.texts") #[]) #[.iface 96 x]).run Tryz.prog W = .ok (.enter 226 #[x]) W := by kernel_rfl
theorem inv_ac (x : Value) (W : World) : (invoke (.fn (.method "fairlead/show.texts") #[]) #[.iface 97 x]).run Tryz.prog W = .ok (.enter 227 #[x]) W := by kernel_rfl
theorem inv_nm (x : Value) (W : World) : (invoke (.fn (.method "fairlead/show.texts") #[]) #[.iface 137 x]).run Tryz.prog W = .ok (.enter 230 #[x]) W := by kernel_rfl
theorem inv_cd (x : Value) (W : World) : (invoke (.fn (.method "fairlead/show.texts") #[]) #[.iface 140 x]).run Tryz.prog W = .ok (.enter 231 #[x]) W := by kernel_rfl
theorem app_row {base : Nat} {w W w1 : World} {va v : Value} {l ms : List (List UInt8)} (hb : Below base w W) (hB : base <= W.heap.size) (ho : W.ownsRow base 9 1 va l.length (cellsT' l)) (h1 : w1.ownsRow W.heap.size 9 1 v ms.length (cellsT' ms)) (b1 : Below W.heap.size W w1) (h0 : 1 <= ms.length) (hl : l.length + ms.length <= 1000000) :
  ∃ g c, v = .slice (some ⟨g, 0, none⟩) ms.length c /\ App base w w1 va g ms.length c (l ++ ms) := by
 obtain ⟨g, c, rfl, _, _, _⟩ := owns_addr h1 (by omega)
 exact ⟨g, c, rfl, app_mk ms rfl (hb.trans (b1.mono hB)) (Nat.le_trans hB b1.size) (owns_below ho b1 (Nat.le_refl _)) (fun j u hu => owns_cells1 h1 j u hu) hl⟩
theorem line_any (T : List Int) (w : World) (base : Nat) (v : Value) (l : List Sh) (ho : w.ownsRow base 134 1 v l.length (l.map Sh.val)) (hok : ∀ x ∈ l, x.ok w) (h0 : 1 <= l.length) (hl : l.length <= 100) (hj : (Lib.join (flat T l) [32]).length <= 100000000) (ht : Tb T w) :
  Calls Tryz.prog 33 #[v] w fun e w' => e = .returned (.string (bar (lineT T l))) /\ Below w.heap.size w w' := by
 obtain ⟨g, cap, rfl, _, hgw, hcap⟩ := owns_addr ho (by omega)
 have HC : Hid (∀ (i : Nat) (h : i < l.length), w.cell? ⟨g, i, none⟩ = some (l[i]).val) := fun i h => owns_cells1 ho i _ (by rw [List.getElem?_map, List.getElem?_eq_getElem h]; rfl)
 have HOK : Hid (∀ x ∈ l, x.ok w) := hok
 have HT : Hid (Tb T w) := ht
 have HJ : Hid ((Lib.join (flat T l) [32]).length <= 100000000) := hj
 have HG : Hid (g < w.heap.size) := hgw
 have hcl : (l.length : Int) <= 100 := by omega
 clear ho hok ht hj hgw
 generalize hR : lineT T l = R
 have HR : Hid (Lib.join (flat T l) [32] ++ [59, 10] = R) := hR
 clear hR
 go_enter Tryz.func33, Tryz.ntmps33
 go_wp2
 go_loopw [3, 8] (fun v3 vi wr => ∃ (va : Value) (i : Nat), va = v3 /\ vi = .int .i64 i /\ i <= l.length /\ wr.ownsRow w.heap.size 9 1 va (flat T (l.take i)).length (cellsT' (flat T (l.take i))) /\ Below w.heap.size w wr) (fun _ vi _ => l.length - (intOf vi).toNat)
 case atStart => exact ⟨_, 0, rfl, rfl, Nat.zero_le _, World.ownsRow_nil _ _ _ _, Below.refl _ _⟩
 case round =>
  obtain ⟨va, i, rfl, rfl, hi, ho, hb⟩ := hrel
  have HB : Hid (Below w.heap.size w wr) := hb
  have HO : Hid (wr.ownsRow w.heap.size 9 1 va (flat T (l.take i)).length (cellsT' (flat T (l.take i)))) := ho
  clear ho
  by_cases hlt : i < l.length
  ·have hi1 : (i : Int) < (l.length : Int) := by omega
   have e1 : wr.cell? ⟨g, i, none⟩ = some (l[i]).val := cellS (HC.out i hlt) (hb.block g HG.out)
   have HX : Hid ((l[i]).ok wr) := (HOK.out _ (List.getElem_mem hlt)).below hb
   have HF : Hid (flat T (l.take (i + 1)) = flat T (l.take i) ++ (l[i]).txt T) := flat_step hlt
   have HLN : Hid ((flat T (l.take i)).length <= 2000) := by
    have := flat_len (T := T) (W := w) (l.take i) fun x hx => HOK.out x (List.mem_of_mem_take hx)
    have h2 : (l.take i).length <= i := List.length_take_le _ _
    show (flat T (l.take i)).length <= 2000
    omega
   have HT2 : Hid (Tb T wr) := HT.out.below hb
   clear hb
   generalize flat T (l.take i) = L at *
   generalize hx : l[i] = x at *
   clear hx
   cases x using Sh.every with
   | wd s =>
    have HM : Hid (∀ W, Below wr.heap.size wr W -> Calls Tryz.prog 226 #[.string s] W fun e w' => Row W w' e ([lst s])) := fun W hW => wordT_any s W
    have HTL : Hid (1 <= ([lst s]).length /\ ([lst s]).length <= 16) := Sh.txt_len (x := .wd s) T HX.out
    have HF2 : Hid (flat T (l.take (i + 1)) = L ++ [lst s]) := HF.out
    clear HF
    have e2 : wr.cell? ⟨g, i, none⟩ = some (.iface 96 (.string s)) := e1
    clear e1
    generalize [lst s] = MS at *
    go_wp2_with (first | (refine at_opS (.call { callee := .invoke (.tmp 13) "fairlead/show.texts", args := #[], argTypes := #[] }) rfl ?_; refine wpList_invoke rfl (.tmp 13) _ rfl 96 _ rfl 226 (inv_wd _) (HM.out _ (Below.refl _ _)) ?_; rintro e w1 ⟨v1, rfl, o1, b1⟩; obtain ⟨g1, c1, rfl, HA0⟩ := app_row HB.out HB.out.size HO.out o1 b1 HTL.out.1 (by have := HLN.out; have := HTL.out.2; omega); have HA : Hid (App w.heap.size w w1 va g1 MS.length c1 (L ++ MS)) := HA0; clear HA0 o1 b1; refine ⟨_, rfl, ?_⟩) | (at_builtin; refine AppG.list HA.out (.tmp 12) (.tmp 14) rfl rfl rfl rfl ?_; intro v5 w5 h5 b5))
    go_roundw
    case rel => exact ⟨_, i + 1, rfl, by go_num, hlt, by rw [HF2.out]; exact h5, b5⟩
    case measure => simp [intOf]; omega
   | ac k a =>
    have HM : Hid (∀ W, Below wr.heap.size wr W -> Calls Tryz.prog 227 #[.agg #[.int .i64 k, .int .i64 a]] W fun e w' => Row W w' e (actT T k a)) := fun W hW => actT_any T k a HX.out.1 HX.out.2.1 HX.out.2.2.1 HX.out.2.2.2 W (HT2.out.below hW)
    have HTL : Hid (1 <= (actT T k a).length /\ (actT T k a).length <= 16) := Sh.txt_len (x := .ac k a) T HX.out
    have HF2 : Hid (flat T (l.take (i + 1)) = L ++ actT T k a) := HF.out
    clear HF
    have e2 : wr.cell? ⟨g, i, none⟩ = some (.iface 97 (.agg #[.int .i64 k, .int .i64 a])) := e1
    clear e1
    generalize actT T k a = MS at *
    go_wp2_with (first | (refine at_opS (.call { callee := .invoke (.tmp 13) "fairlead/show.texts", args := #[], argTypes := #[] }) rfl ?_; refine wpList_invoke rfl (.tmp 13) _ rfl 97 _ rfl 227 (inv_ac _) (HM.out _ (Below.refl _ _)) ?_; rintro e w1 ⟨v1, rfl, o1, b1⟩; obtain ⟨g1, c1, rfl, HA0⟩ := app_row HB.out HB.out.size HO.out o1 b1 HTL.out.1 (by have := HLN.out; have := HTL.out.2; omega); have HA : Hid (App w.heap.size w w1 va g1 MS.length c1 (L ++ MS)) := HA0; clear HA0 o1 b1; refine ⟨_, rfl, ?_⟩) | (at_builtin; refine AppG.list HA.out (.tmp 12) (.tmp 14) rfl rfl rfl rfl ?_; intro v5 w5 h5 b5))
    go_roundw
    case rel => exact ⟨_, i + 1, rfl, by go_num, hlt, by rw [HF2.out]; exact h5, b5⟩
    case measure => simp [intOf]; omega
   | nm v ns =>
    have HM : Hid (∀ W, Below wr.heap.size wr W -> Calls Tryz.prog 230 #[v] W fun e w' => Row W w' e (namesT ns)) := fun W hW => namesT_any W v ns (HX.out.1.below hW) HX.out.2.1 HX.out.2.2.1 HX.out.2.2.2
    have HTL : Hid (1 <= (namesT ns).length /\ (namesT ns).length <= 16) := Sh.txt_len (x := .nm v ns) T HX.out
    have HF2 : Hid (flat T (l.take (i + 1)) = L ++ namesT ns) := HF.out
    clear HF
    have e2 : wr.cell? ⟨g, i, none⟩ = some (.iface 137 v) := e1
    clear e1
    generalize namesT ns = MS at *
    go_wp2_with (first | (refine at_opS (.call { callee := .invoke (.tmp 13) "fairlead/show.texts", args := #[], argTypes := #[] }) rfl ?_; refine wpList_invoke rfl (.tmp 13) _ rfl 137 _ rfl 230 (inv_nm _) (HM.out _ (Below.refl _ _)) ?_; rintro e w1 ⟨v1, rfl, o1, b1⟩; obtain ⟨g1, c1, rfl, HA0⟩ := app_row HB.out HB.out.size HO.out o1 b1 HTL.out.1 (by have := HLN.out; have := HTL.out.2; omega); have HA : Hid (App w.heap.size w w1 va g1 MS.length c1 (L ++ MS)) := HA0; clear HA0 o1 b1; refine ⟨_, rfl, ?_⟩) | (at_builtin; refine AppG.list HA.out (.tmp 12) (.tmp 14) rfl rfl rfl rfl ?_; intro v5 w5 h5 b5))
    go_roundw
    case rel => exact ⟨_, i + 1, rfl, by go_num, hlt, by rw [HF2.out]; exact h5, b5⟩
    case measure => simp [intOf]; omega
   | cd x =>
    have HM : Hid (∀ W, Below wr.heap.size wr W -> Calls Tryz.prog 231 #[.agg #[.int .i64 x.arg, .int .i64 x.op, .int .u64 x.mask, .int .u64 x.val]] W fun e w' => Row W w' e (condT T x)) := fun W hW => condT_any T x HX.out.1 HX.out.2.1 HX.out.2.2.1 HX.out.2.2.2.1 HX.out.2.2.2.2.1 HX.out.2.2.2.2.2.1 HX.out.2.2.2.2.2.2.1 HX.out.2.2.2.2.2.2.2 W (HT2.out.below hW)
    have HTL : Hid (1 <= (condT T x).length /\ (condT T x).length <= 16) := Sh.txt_len (x := .cd x) T HX.out
    have HF2 : Hid (flat T (l.take (i + 1)) = L ++ condT T x) := HF.out
    clear HF
    have e2 : wr.cell? ⟨g, i, none⟩ = some (.iface 140 (.agg #[.int .i64 x.arg, .int .i64 x.op, .int .u64 x.mask, .int .u64 x.val])) := e1
    clear e1
    generalize condT T x = MS at *
    go_wp2_with (first | (refine at_opS (.call { callee := .invoke (.tmp 13) "fairlead/show.texts", args := #[], argTypes := #[] }) rfl ?_; refine wpList_invoke rfl (.tmp 13) _ rfl 140 _ rfl 231 (inv_cd _) (HM.out _ (Below.refl _ _)) ?_; rintro e w1 ⟨v1, rfl, o1, b1⟩; obtain ⟨g1, c1, rfl, HA0⟩ := app_row HB.out HB.out.size HO.out o1 b1 HTL.out.1 (by have := HLN.out; have := HTL.out.2; omega); have HA : Hid (App w.heap.size w w1 va g1 MS.length c1 (L ++ MS)) := HA0; clear HA0 o1 b1; refine ⟨_, rfl, ?_⟩) | (at_builtin; refine AppG.list HA.out (.tmp 12) (.tmp 14) rfl rfl rfl rfl ?_; intro v5 w5 h5 b5))
    go_roundw
    case rel => exact ⟨_, i + 1, rfl, by go_num, hlt, by rw [HF2.out]; exact h5, b5⟩
    case measure => simp [intOf]; omega
  ·have hge : ¬ (i : Int) < (l.length : Int) := by omega
   have hfull : flat T (l.take i) = flat T l := by rw [List.take_of_length_le (by omega)]
   have hpos : 1 <= (flat T l).length := by
    cases hl2 : l with
    | nil => rw [hl2] at h0; simp at h0
    | cons x r =>
     have h1 := (Sh.txt_len T (HOK.out x (by rw [hl2]; exact List.mem_cons_self))).1
     show 1 <= (x.txt T ++ flat T r).length
     rw [List.length_append]
     omega
   have hmax : (flat T l).length <= 1600 := by
    have := flat_len (T := T) (W := w) l HOK.out
    omega
   rw [hfull] at HO
   clear hfull HC HOK HT
   generalize flat T l = L at *
   obtain ⟨g1, c1, rfl, _, hg1, hc1⟩ := owns_addr HO.out (by omega)
   have HJN : Hid (Calls Tryz.prog 62 #[.slice (some ⟨g1, 0, none⟩) L.length c1, .string ⟨#[32]⟩] wr fun e w' => e = .returned (.string (bar (Lib.join L [32]))) /\ Below wr.heap.size wr w') := by
    have hm : (L.map bar).map (fun x : ByteArray => x.data.toList) = L := by
     rw [List.map_map]
     have : ((fun x : ByteArray => x.data.toList) ∘ bar) = id := by funext t; simp [bar]
     rw [this]
     simp
    have hJ := Tryz.strings_Join g1 0 c1 (L.map bar) ⟨#[32]⟩ wr (fun j x hx => by
     rw [Nat.zero_add]
     refine owns_cells1 HO.out j _ ?_
     rw [List.getElem?_map] at hx
     simp only [cellsT', List.getElem?_map]
     cases hj : L[j]? with
     | none => rw [hj] at hx; cases hx
     | some y => rw [hj] at hx; cases hx; rfl) hg1 (by simp; omega) (by simp; omega) (by rw [hm]; have := HJ.out; show (Lib.join L [32]).length <= _; omega)
    rw [hm, List.length_map] at hJ
    exact hJ
   have hsz : (bar (Lib.join L [32])).size <= 100000000 := by rw [bar_size]; exact HJ.out
   have hcat : bar (Lib.join L [32]) ++ (⟨#[59, 10]⟩ : ByteArray) = bar (Lib.join L [32] ++ [59, 10]) := bar_append _ [59, 10]
   have HRS : Hid (bar (Lib.join L [32] ++ [59, 10]) = bar R) := by show bar _ = _; rw [HR.out]
   clear hb HR HJ HO
   generalize Lib.join L [32] ++ [59, 10] = LL at *
   generalize bar (Lib.join L [32]) = JB at *
   go_wp2_with fail
   refine HJN.out.mono ?_
   rintro e w2 ⟨rfl, b2⟩
   go_wp2_with fail
   go_ret
   exact ⟨by rw [HRS.out]; rfl, HB.out.trans (b2.mono HB.out.size)⟩
end Go.Proofs.YtcckipimfgmmdaaGreatDoor.P
/-
 What stands in the line of a rule.
-/
namespace Go.Proofs.YtcckipimfgmmdaaGreatDoor.P
open Go.RowKit
theorem Tryz.infoS : (Tryz.prog.info? 134).map (fun i => (i.zero, i.size, i.bytes)) = some (some .nilIface, 1, 16) := by kernel_rfl
theorem sh_one (x : Sh) : x.val.oneCell' = true := by cases x using Sh.every <;> rfl
def wWhenB : ByteArray := ⟨#[119, 104, 101, 110]⟩
def wAndB : ByteArray := ⟨#[97, 110, 100]⟩
def condsS (ahead : ByteArray) : List Xc -> List Sh
 | [] => []
 | x :: r => .wd ahead :: .cd x :: condsS wAndB r
def partsS (x : Xr) : List Sh := .ac x.r.k x.r.a :: .nm x.vn x.r.names :: condsS wWhenB x.r.conds
def aheadAt (i : Nat) : ByteArray := if i = 0 then wWhenB else wAndB
theorem condsS_snoc : ∀ (l : List Xc) (a : ByteArray) (x : Xc), condsS a (l ++ [x]) = condsS a l ++ [.wd (if l.length = 0 then a else wAndB), .cd x] := by
 intro l
 induction l with
 | nil => intro a x; rfl
 | cons y l ih =>
  intro a x
  show .wd a :: .cd y :: condsS wAndB (l ++ [x]) = _
  rw [ih wAndB x, ite_self]
  rfl
theorem condsS_take {l : List Xc} {i : Nat} (h : i < l.length) : condsS wWhenB (l.take (i + 1)) = condsS wWhenB (l.take i) ++ [.wd (aheadAt i), .cd l[i]] := by
 rw [List.take_succ_eq_append_getElem h, condsS_snoc]
 rw [List.length_take, Nat.min_eq_left (by omega)]
 rfl
theorem condsS_length : ∀ (l : List Xc) (a : ByteArray), (condsS a l).length = l.length * 2 := by
 intro l
 induction l with
 | nil => intro a; rfl
 | cons y l ih => intro a; show (condsS wAndB l).length + 1 + 1 = _; rw [ih, List.length_cons]; omega
theorem app_sh {base : Nat} {w W : World} {v : Value} {l : List Sh} (x y : Sh) (hb : Below base w W) (hB : base <= W.heap.size) (ho : W.ownsRow base 134 1 v l.length (l.map Sh.val)) (hl : l.length <= 1000) :
  AppG 98 134 base w (W.alloc (Obj.cells #[x.val, y.val] 134)) v W.heap.size 2 2 (l ++ [x, y]).length ((l ++ [x, y]).map Sh.val) := by
 intro ty
 have b1 : Below W.heap.size W (W.alloc (Obj.cells #[x.val, y.val] 134)) := (Below.refl _ _).alloc (Nat.le_refl _) _
 obtain ⟨i0, hi, hz0, hz1, hz2⟩ := info_parts Tryz.infoS
 obtain ⟨v', w', hr, g1, g2, _⟩ := run_append_own (P := Tryz.prog) (W.alloc (Obj.cells #[x.val, y.val] 134)) base 98 ty 134 i0 _ 1 16 Tryz.underlying98 hi hz0 hz1 hz2 rfl (by decide) v l.length (l.map Sh.val) (owns_below ho b1 (Nat.le_refl _)) ⟨W.heap.size, 0, none⟩ 2 2 [x.val, y.val] rfl (fun j u hu => by
  rw [show (⟨W.heap.size, 0, none⟩ : Addr).add j = ⟨W.heap.size, j, none⟩ from by unfold Addr.add; split <;> simp_all]
  rw [(blk_new W #[x.val, y.val] 134).cell j]
  exact hu) (by intro u hu; simp at hu; rcases hu with rfl | rfl <;> exact sh_one _) (by unfold maxLen; omega) (by omega) (by rw [size_alloc']; omega)
 refine ⟨v', w', hr, ?_, below_grown (hb.alloc hB _) (owns_below ho b1 (Nat.le_refl _)) g2 (by rw [size_alloc']; omega)⟩
 rw [List.length_append, List.map_append]
 exact g1
theorem parts_any (w : World) (x : Xr) (hn : StrR w x.vn x.r.names) (hc : CdR w x.vc x.r.conds) (h8 : x.r.conds.length <= 8) :
  Calls Tryz.prog 34 #[.agg #[.int .i64 x.r.k, .int .i64 x.r.a, x.vn, x.vc]] w fun e w' => ∃ v, e = .returned v /\ w'.ownsRow w.heap.size 134 1 v (partsS x).length ((partsS x).map Sh.val) /\ Below w.heap.size w w' := by
 obtain ⟨⟨k, a, ns, cs⟩, vn, vc⟩ := x
 unfold partsS
 dsimp only at hn hc h8 ⊢
 obtain ⟨p1, c1, rfl⟩ : ∃ p c, vn = .slice p ns.length c := by obtain ⟨p, c, e, _⟩ := hn; exact ⟨p, c, e⟩
 obtain ⟨p2, c2, rfl⟩ : ∃ p c, vc = .slice p cs.length c := by obtain ⟨p, c, e, _⟩ := hc; exact ⟨p, c, e⟩
 have be : Below w.heap.size w (w.alloc (Obj.cells #[.int .i64 k, .int .i64 a, .slice p1 ns.length c1, .slice p2 cs.length c2] 87)) := (Below.refl _ _).alloc (Nat.le_refl _) _
 have BE : Hid (Below w.heap.size w (w.alloc (Obj.cells #[.int .i64 k, .int .i64 a, .slice p1 ns.length c1, .slice p2 cs.length c2] 87))) := be
 have HK : Hid (Blk (w.alloc (Obj.cells #[.int .i64 k, .int .i64 a, .slice p1 ns.length c1, .slice p2 cs.length c2] 87)) w.heap.size 87 [.int .i64 k, .int .i64 a, .slice p1 ns.length c1, .slice p2 cs.length c2]) := blk_new w _ _
 have SC : Hid (CdR (w.alloc (Obj.cells #[.int .i64 k, .int .i64 a, .slice p1 ns.length c1, .slice p2 cs.length c2] 87)) (.slice p2 cs.length c2) cs) := hc.below be
 clear hn hc be
 go_enter Tryz.func34, Tryz.ntmps34
 go_wp2
 have O0 : Hid (((w.alloc (Obj.cells #[.int .i64 k, .int .i64 a, .slice p1 ns.length c1, .slice p2 cs.length c2] 87)).alloc (Obj.cells #[.iface 97 (.agg #[.int .i64 k, .int .i64 a]), .iface 137 (.slice p1 ns.length c1)] 134)).ownsRow (w.heap.size + 1) 134 1 (.slice (some ⟨w.heap.size + 1, 0, none⟩) 2 2) 2 [.iface 97 (.agg #[.int .i64 k, .int .i64 a]), .iface 137 (.slice p1 ns.length c1)]) := by
  have := owns_new (w := w.alloc (Obj.cells #[.int .i64 k, .int .i64 a, .slice p1 ns.length c1, .slice p2 cs.length c2] 87)) (base := w.heap.size + 1) 134 [.iface 97 (.agg #[.int .i64 k, .int .i64 a]), .iface 137 (.slice p1 ns.length c1)] (by rw [size_alloc']; exact Nat.le_refl _) (by simp) (by simp)
  rw [size_alloc'] at this
  exact this
 have B0 : Hid (Below (w.heap.size + 1) (w.alloc (Obj.cells #[.int .i64 k, .int .i64 a, .slice p1 ns.length c1, .slice p2 cs.length c2] 87)) ((w.alloc (Obj.cells #[.int .i64 k, .int .i64 a, .slice p1 ns.length c1, .slice p2 cs.length c2] 87)).alloc (Obj.cells #[.iface 97 (.agg #[.int .i64 k, .int .i64 a]), .iface 137 (.slice p1 ns.length c1)] 134))) := (Below.refl _ _).alloc (by rw [size_alloc']; exact Nat.le_refl _) _
 have HX : Hid ((w.alloc (Obj.cells #[.int .i64 k, .int .i64 a, .slice p1 ns.length c1, .slice p2 cs.length c2] 87)).heap.size = w.heap.size + 1) := size_alloc' _ _
 generalize (w.alloc (Obj.cells #[.int .i64 k, .int .i64 a, .slice p1 ns.length c1, .slice p2 cs.length c2] 87)) = X at *
 generalize w.heap.size + 1 = B at *
 generalize X.alloc (Obj.cells #[.iface 97 (.agg #[.int .i64 k, .int .i64 a]), .iface 137 (.slice p1 ns.length c1)] 134) = Y at *
 go_loopw [3, 4, 17] (fun v3 v4 vi wr => ∃ (va : Value) (i : Nat), va = v3 /\ v4 = .string (aheadAt i) /\ vi = .int .i64 i /\ i <= cs.length /\ wr.ownsRow B 134 1 va ([Sh.ac k a, Sh.nm (.slice p1 ns.length c1) ns] ++ condsS wWhenB (cs.take i)).length (([Sh.ac k a, Sh.nm (.slice p1 ns.length c1) ns] ++ condsS wWhenB (cs.take i)).map Sh.val) /\ Below B X wr) (fun _ _ vi _ => cs.length - (intOf vi).toNat)
 case atStart => exact ⟨_, 0, rfl, rfl, rfl, Nat.zero_le _, O0.out, B0.out⟩
 case round =>
  obtain ⟨va, i, rfl, rfl, rfl, hi, ho, hb⟩ := hrel
  have HB : Hid (Below B X wr) := hb
  have HO : Hid (wr.ownsRow B 134 1 va ([Sh.ac k a, Sh.nm (.slice p1 ns.length c1) ns] ++ condsS wWhenB (cs.take i)).length (([Sh.ac k a, Sh.nm (.slice p1 ns.length c1) ns] ++ condsS wWhenB (cs.take i)).map Sh.val)) := ho
  clear ho
  have hbX : Below X.heap.size X wr := by rw [HX.out]; exact hb
  by_cases hlt : i < cs.length
  ·have hi1 : (i : Int) < (cs.length : Int) := by omega
   obtain ⟨b1, o1, rfl, e1⟩ := cdR_at (SC.out.below hbX) hlt
   have HT : Hid ([Sh.ac k a, Sh.nm (.slice p1 ns.length c1) ns] ++ condsS wWhenB (cs.take (i + 1)) = ([Sh.ac k a, Sh.nm (.slice p1 ns.length c1) ns] ++ condsS wWhenB (cs.take i)) ++ [.wd (aheadAt i), .cd cs[i]]) := by show _ = _; rw [condsS_take hlt, List.append_assoc]
   have hbs : B <= wr.heap.size := by have := hbX.size; have := HX.out; omega
   have BA : Below B X (wr.alloc (Obj.cells #[.int .i64 cs[i].arg, .int .i64 cs[i].op, .int .u64 cs[i].mask, .int .u64 cs[i].val] 139)) := hb.alloc hbs _
   have HA : Hid (AppG 98 134 B X ((wr.alloc (Obj.cells #[.int .i64 cs[i].arg, .int .i64 cs[i].op, .int .u64 cs[i].mask, .int .u64 cs[i].val] 139)).alloc (Obj.cells #[.iface 96 (.string (aheadAt i)), .iface 140 (.agg #[.int .i64 cs[i].arg, .int .i64 cs[i].op, .int .u64 cs[i].mask, .int .u64 cs[i].val])] 134)) va (wr.heap.size + 1) 2 2 (([Sh.ac k a, Sh.nm (.slice p1 ns.length c1) ns] ++ condsS wWhenB (cs.take i)) ++ [Sh.wd (aheadAt i), Sh.cd cs[i]]).length ((([Sh.ac k a, Sh.nm (.slice p1 ns.length c1) ns] ++ condsS wWhenB (cs.take i)) ++ [Sh.wd (aheadAt i), Sh.cd cs[i]]).map Sh.val)) := by
    have := app_sh (w := X) (.wd (aheadAt i)) (.cd cs[i]) BA (by rw [size_alloc']; omega) (owns_below HO.out ((Below.refl _ _).alloc (Nat.le_refl _) _) (Nat.le_refl _)) (by rw [List.length_append, condsS_length]; simp; omega)
    rw [size_alloc'] at this
    exact this
   have HN : Hid (aheadAt (i + 1) = ⟨#[97, 110, 100]⟩) := by
    show aheadAt (i + 1) = _
    unfold aheadAt
    rw [if_neg (by omega)]
    rfl
   clear hb hbX hbs BA
   generalize aheadAt i = AW at *
   generalize cs[i] = x at *
   obtain ⟨q0, q1, q2, q3⟩ := e1
   generalize ([Sh.ac k a, Sh.nm (.slice p1 ns.length c1) ns] ++ condsS wWhenB (cs.take i)) = L at *
   go_wp2_with (at_builtin; refine AppG.list HA.out (.tmp 21) (.tmp 26) rfl rfl rfl rfl ?_; intro v5 w5 h5 b5)
   go_roundw
   case rel => exact ⟨_, i + 1, rfl, by rw [HN.out], by go_num, hlt, by rw [HT.out]; exact h5, b5⟩
   case measure => simp [intOf]; omega
  ·have hge : ¬ (i : Int) < (cs.length : Int) := by omega
   have hfull : cs.take i = cs := List.take_of_length_le (by omega)
   rw [hfull] at HO
   clear hb hbX hfull
   go_wp2_with fail
   go_ret
   exact ⟨_, rfl, owns_lower HO.out (by have := BE.out.size; have := HX.out; omega), BE.out.trans (HB.out.mono (by have := BE.out.size; have := HX.out; omega))⟩
end Go.Proofs.YtcckipimfgmmdaaGreatDoor.P
/-
 A rule's line as a text, and how long it may be.
-/
namespace Go.Proofs.YtcckipimfgmmdaaGreatDoor.P
open Go.RowKit
def wDefaultB : ByteArray := ⟨#[100, 101, 102, 97, 117, 108, 116]⟩
def defT (T : List Int) (k a : Int) : List UInt8 := lineT T [.wd wDefaultB, .ac k a]
def ruleT (T : List Int) (x : Xl) : List UInt8 := Lib.join (actT T x.k x.a ++ (namesT x.names ++ flat T (condsS wWhenB x.conds))) [32] ++ [59, 10]
def textT (T : List Int) (k a : Int) (l : List Xl) : List UInt8 := defT T k a ++ l.flatMap (ruleT T)
theorem parts_line (T : List Int) (x : Xr) : lineT T (partsS x) = ruleT T x.r := by
 unfold lineT partsS ruleT
 rfl
theorem textT_step {T : List Int} {k a : Int} {l : List Xr} {i : Nat} (h : i < l.length) : textT T k a ((l.take (i + 1)).map Xr.r) = textT T k a ((l.take i).map Xr.r) ++ lineT T (partsS l[i]) := by
 unfold textT
 rw [List.take_succ_eq_append_getElem h, List.map_append, List.flatMap_append, parts_line, List.append_assoc]
 simp
theorem join_le {L : List (List UInt8)} {n : Nat} (h : ∀ t ∈ L, t.length <= n) : (Lib.join L [32]).length <= L.length * (n + 1) := by
 have tail : ∀ r : List (List UInt8), (∀ t ∈ r, t.length <= n) -> (Lib.joinTail [32] r).length <= r.length * (n + 1) := by
  intro r
  induction r with
  | nil => intro _; simp [Lib.joinTail]
  | cons x r ih =>
   intro hr
   have h1 := hr x List.mem_cons_self
   have h2 := ih fun t ht => hr t (List.mem_cons_of_mem _ ht)
   show ((([32] ++ x) :: r.map ([32] ++ ·)).flatten).length <= _
   rw [List.flatten_cons, List.length_append, List.length_append, show (x :: r).length = r.length + 1 from rfl, Nat.add_mul]
   have h3 : ((r.map ([32] ++ ·)).flatten).length <= r.length * (n + 1) := h2
   simp only [List.length_cons, List.length_nil]
   omega
 cases L with
 | nil => exact Nat.zero_le _
 | cons x r =>
  rw [Lib.join_cons, List.length_append, List.length_cons, Nat.add_mul]
  have h1 := h x List.mem_cons_self
  have h2 := tail r fun t ht => h t (List.mem_cons_of_mem _ ht)
  omega
def Sh.sm : Sh -> Prop
 | .inl s => s.size <= 100
 | _ => True
theorem namesT_small {n : Nat} : ∀ (l : List ByteArray), (∀ s ∈ l, s.size <= n) -> ∀ t ∈ namesT l, t.length <= n + 1 := by
 intro l
 induction l with
 | nil => intro _ t ht; cases ht
 | cons x l ih =>
  intro h t ht
  have hx : (lst x).length <= n := by rw [lst_length]; exact h x List.mem_cons_self
  cases l with
  | nil =>
   simp only [namesT, List.mem_singleton] at ht
   subst ht
   omega
  | cons y l =>
   have ht2 : t ∈ comma x :: namesT (y :: l) := ht
   rcases List.mem_cons.1 ht2 with rfl | h3
   ·unfold comma
    rw [List.length_append]
    simp only [List.length_cons, List.length_nil]
    omega
   ·exact ih (fun s hs => h s (List.mem_cons_of_mem _ hs)) t h3
theorem wordS_len (k : Nat) : (wordS k).length <= 100 := by
 unfold wordS
 match k with
 | 0 | 1 | 2 | 3 | 4 | 5 | 6 | 7 | 8 => decide
 | n + 9 => simp
theorem signS_len (k : Nat) : (signS k).length <= 100 := by
 unfold signS
 match k with
 | 0 | 1 | 2 | 3 | 4 | 5 | 6 => decide
 | n + 7 => simp
theorem Sh.small {x : Sh} {W : World} (T : List Int) (h : x.ok W) (hs : x.sm) : ∀ t ∈ x.txt T, t.length <= 100001 := by
 cases x using Sh.every with
 | wd s =>
  intro t ht
  have : t = lst s := by simpa [Sh.txt] using ht
  subst this
  rw [lst_length]
  have : s.size <= 100 := hs
  omega
 | ac k a =>
  obtain ⟨h1, h2, h3, h4⟩ := h
  intro t ht
  have ht2 : t ∈ actT T k a := ht
  have w1 := wordS_len k.toNat
  have w2 := dec_len T a.toNat (by omega)
  unfold actT at ht2
  rcases List.mem_cons.1 ht2 with rfl | h5
  ·omega
  ·split at h5
   ·have : t = dec T a.toNat := by simpa using h5
    subst this
    omega
   ·cases h5
 | nm v ns => exact namesT_small ns h.2.2.2
 | cd x =>
  obtain ⟨h1, h2, h3, h4, h5, h6, h7, h8⟩ := h
  intro t ht
  have ht2 : t ∈ condT T x := ht
  have w1 := dec_len T x.arg.toNat (by omega)
  have w2 := dec_len T x.mask.toNat (by omega)
  have w3 := dec_len T x.val.toNat (by omega)
  have w4 := signS_len x.op.toNat
  unfold condT at ht2
  rcases List.mem_cons.1 ht2 with rfl | h9
  ·rw [List.length_append]
   simp only [List.length_cons, List.length_nil]
   omega
  ·rcases List.mem_append.1 h9 with h9 | h9
   ·split at h9
    ·cases h9
    ·simp only [List.mem_cons, List.not_mem_nil, or_false] at h9
     rcases h9 with rfl | rfl
     ·simp
     ·omega
   ·simp only [List.mem_cons, List.not_mem_nil, or_false] at h9
    rcases h9 with rfl | rfl
    ·omega
    ·omega
theorem flat_join {T : List Int} {W : World} {l : List Sh} (h : ∀ x ∈ l, x.ok W /\ x.sm) (hl : l.length <= 20) : (Lib.join (flat T l) [32]).length <= 100000000 := by
 have h1 := flat_len (T := T) (W := W) l fun x hx => (h x hx).1
 have h2 := join_le (L := flat T l) (n := 100001) fun t ht => by
  obtain ⟨x, hx, hxt⟩ := List.mem_flatMap.1 ht
  exact Sh.small T (h x hx).1 (h x hx).2 t hxt
 have h3 : (flat T l).length * (100001 + 1) <= 320 * 100002 := Nat.mul_le_mul (by omega) (Nat.le_refl _)
 omega
def U64 (z : Int) : Prop := 0 <= z /\ z < 18446744073709551616
structure Xl.in (x : Xl) : Prop where
 nm : ∀ s ∈ x.names, s.size <= 100000
 cd : ∀ c ∈ x.conds, U64 c.mask /\ U64 c.val
theorem condsS_ok {W : World} : ∀ (l : List Xc) (a : ByteArray), a.size <= 100 -> (∀ c ∈ l, condB c = true /\ U64 c.mask /\ U64 c.val) -> ∀ y ∈ condsS a l, y.ok W /\ y.sm := by
 intro l
 induction l with
 | nil => intro a _ _ y hy; cases hy
 | cons x l ih =>
  intro a ha h y hy
  have hy2 : y ∈ Sh.wd a :: Sh.cd x :: condsS wAndB l := hy
  rcases List.mem_cons.1 hy2 with rfl | h1
  ·exact ⟨trivial, ha⟩
  ·rcases List.mem_cons.1 h1 with rfl | h2
   ·obtain ⟨hc, hm, hv⟩ := h x List.mem_cons_self
    unfold condB at hc
    simp only [Bool.and_eq_true, decide_eq_true_eq] at hc
    exact ⟨⟨hc.1.1.1, hc.1.1.2, hc.1.2, hc.2, hm.1, hm.2, hv.1, hv.2⟩, trivial⟩
   ·exact ih wAndB (by decide) (fun c hc => h c (List.mem_cons_of_mem _ hc)) y h2
theorem actB_out {k a : Int} (h : actB k a = true) : 1 <= k /\ k <= 8 /\ 0 <= a /\ a <= 65535 := by
 unfold actB at h
 simp only [Bool.and_eq_true, decide_eq_true_eq] at h
 obtain ⟨⟨h1, h2⟩, h3⟩ := h
 refine ⟨h1, h2, ?_⟩
 split at h3
 ·simp only [Bool.and_eq_true, decide_eq_true_eq] at h3
  exact h3
 ·have : a = 0 := by simpa using h3
  omega
theorem ruleB_out {x : Xl} (h : ruleB x = true) : 1 <= x.names.length /\ x.names.length <= 16 /\ x.conds.length <= 8 /\ actB x.k x.a = true /\ (∀ s ∈ x.names, isWd (lst s) = true) /\ ∀ c ∈ x.conds, condB c = true := by
 unfold ruleB at h
 simp only [Bool.and_eq_true, decide_eq_true_eq, List.all_eq_true] at h
 exact ⟨h.1.1.1, h.1.1.2, h.1.2, h.2.1.1, h.2.1.2, h.2.2⟩
theorem parts_ok {W : World} {x : Xr} (hb : ruleB x.r = true) (hin : x.r.in) (hn : StrR W x.vn x.r.names) : ∀ y ∈ partsS x, y.ok W /\ y.sm := by
 obtain ⟨h1, h2, h3, h4, h5, h6⟩ := ruleB_out hb
 intro y hy
 unfold partsS at hy
 rcases List.mem_cons.1 hy with rfl | h7
 ·exact ⟨actB_out h4, trivial⟩
 ·rcases List.mem_cons.1 h7 with rfl | h8
  ·exact ⟨⟨hn, h1, h2, hin.nm⟩, trivial⟩
  ·exact condsS_ok _ _ (by decide) (fun c hc => ⟨h6 c hc, hin.cd c hc⟩) y h8
theorem parts_len {x : Xr} (hb : ruleB x.r = true) : 2 <= (partsS x).length /\ (partsS x).length <= 18 := by
 obtain ⟨h1, h2, h3, h4, h5, h6⟩ := ruleB_out hb
 unfold partsS
 simp only [List.length_cons]
 rw [condsS_length]
 omega
end Go.Proofs.YtcckipimfgmmdaaGreatDoor.P
