/-
  A line of what is shown.
-/
import Derived.Test.YtcllgpbgikidjaaDoorSNames
import Derived.Test.YtcllgpbgikidjaaDoorSCond
namespace Go.Proofs.YtcllgpbgikidjaaDoor
open Go.RowKit

/-- what may stand in a line. -/
inductive Sh
  | wd (s : ByteArray)
  | ac (k a : Int)
  | nm (v : Value) (ns : List ByteArray)
  | cd (x : Xc)

def Sh.val : Sh → Value
  | .wd s => .iface 52 (.string s)
  | .ac k a => .iface 53 (.agg #[.int .i64 k, .int .i64 a])
  | .nm v _ => .iface 73 v
  | .cd x => .iface 74 (.agg #[.int .i64 x.arg, .int .i64 x.op, .int .u64 x.mask, .int .u64 x.val])

def Sh.ok (W : World) : Sh → Prop
  | .wd _ => True
  | .ac k a => 1 ≤ k ∧ k ≤ 8 ∧ 0 ≤ a ∧ a ≤ 65535
  | .nm v ns => StrR W v ns ∧ 1 ≤ ns.length ∧ ns.length ≤ 16 ∧ ∀ s ∈ ns, s.size ≤ 100000
  | .cd x => 0 ≤ x.arg ∧ x.arg < 6 ∧ 1 ≤ x.op ∧ x.op ≤ 6 ∧ 0 ≤ x.mask ∧ x.mask < 18446744073709551616 ∧ 0 ≤ x.val ∧ x.val < 18446744073709551616

def Sh.txt (T : List Int) : Sh → List (List UInt8)
  | .wd s => [lst s]
  | .ac k a => actT T k a
  | .nm _ ns => namesT ns
  | .cd x => condT T x

theorem Sh.ok.below {x : Sh} {W W' : World} (h : x.ok W) (hb : Below W.heap.size W W') : x.ok W' := by
  cases x with
  | wd s => exact h
  | ac k a => exact h
  | nm v ns => exact ⟨h.1.below hb, h.2⟩
  | cd x => exact h

theorem namesT_length : ∀ (l : List ByteArray), (namesT l).length = l.length := by
  intro l
  induction l with
  | nil => rfl
  | cons x l ih =>
    cases l with
    | nil => rfl
    | cons y l => show (comma x :: namesT (y :: l)).length = _; rw [List.length_cons, ih]; rfl

theorem Sh.txt_len {x : Sh} {W : World} (T : List Int) (h : x.ok W) : 1 ≤ (x.txt T).length ∧ (x.txt T).length ≤ 16 := by
  cases x with
  | wd s => exact ⟨Nat.le_refl 1, show 1 ≤ 16 by decide⟩
  | ac k a => show 1 ≤ (actT T k a).length ∧ (actT T k a).length ≤ 16; unfold actT; split <;> simp
  | nm v ns => show 1 ≤ (namesT ns).length ∧ (namesT ns).length ≤ 16; rw [namesT_length]; exact ⟨h.2.1, h.2.2.1⟩
  | cd x => show 1 ≤ (condT T x).length ∧ (condT T x).length ≤ 16; unfold condT; split <;> simp

def flat (T : List Int) (l : List Sh) : List (List UInt8) := l.flatMap (Sh.txt T)
def lineT (T : List Int) (l : List Sh) : List UInt8 := Lib.join (flat T l) [32] ++ [59, 10]

theorem flat_step {T : List Int} {l : List Sh} {i : Nat} (h : i < l.length) : flat T (l.take (i + 1)) = flat T (l.take i) ++ (l[i]).txt T := by
  unfold flat
  rw [List.take_succ_eq_append_getElem h, List.flatMap_append]
  simp

theorem flat_len {T : List Int} {W : World} : ∀ (l : List Sh), (∀ x ∈ l, x.ok W) → (flat T l).length ≤ l.length * 16 := by
  intro l
  induction l with
  | nil => intro _; exact Nat.le_refl _
  | cons x l ih =>
    intro h
    have h1 := (Sh.txt_len T (h x List.mem_cons_self)).2
    have h2 := ih fun y hy => h y (List.mem_cons_of_mem _ hy)
    show (x.txt T ++ flat T l).length ≤ _
    rw [List.length_append, List.length_cons]
    omega

/-- a method of an interface value, called, as a step of a walk. -/
theorem wpList_invoke {ops : Array Oper} {rest : List Oper} {o : Oper} {a : Act} {w : World} {Q : Exit → Act → World → Prop} (hgd : o.guard = none) (r : Operand) (name : String)
    (ho : o.op = .call { callee := .invoke r name, args := #[], argTypes := #[] }) (t : TypeId) (x : Value) (hr : a.eval r = .iface t x) (f : FuncId)
    (hin : ∀ W, (invoke (.fn (.method name) #[]) #[.iface t x]).run Tryd.prog W = .ok (.enter f #[x]) W) {R : Ending → World → Prop} (hc : Calls Tryd.prog f #[x] w R)
    (h : ∀ e w', R e w' → ∃ v, e = .returned v ∧ wpList Tryd.prog ops Q rest (a.put o.dst v) w') : wpList Tryd.prog ops Q (o :: rest) a w := by
  refine wpList_plain hgd fun K hK => ?_
  unfold Oper.wp execOp
  rw [ho]
  simp only [resolve, Sem.run_bind, Sem.run_pure, Result.andThen_ok, List.map_toArray, List.map_nil, hr, hin, Array.append_empty]
  rw [Oper.upon_enter]
  refine hc.mono ?_
  intro e w' hR
  obtain ⟨v, rfl, hv⟩ := h e w' hR
  exact hK _ _ hv

/-- a guard for an arm at one operation. -/
theorem at_opS {ops : Array Oper} {rest : List Oper} {o : Oper} {a : Act} {w : World} {Q : Exit → Act → World → Prop} (p : Op) (_ : o.op = p) (h : wpList Tryd.prog ops Q (o :: rest) a w) : wpList Tryd.prog ops Q (o :: rest) a w := h

theorem inv_wd (x : Value) (W : World) : (invoke (.fn (.method "fairlead/show.texts") #[]) #[.iface 52 x]).run Tryd.prog W = .ok (.enter 106 #[x]) W := by kernel_rfl
theorem inv_ac (x : Value) (W : World) : (invoke (.fn (.method "fairlead/show.texts") #[]) #[.iface 53 x]).run Tryd.prog W = .ok (.enter 107 #[x]) W := by kernel_rfl
theorem inv_nm (x : Value) (W : World) : (invoke (.fn (.method "fairlead/show.texts") #[]) #[.iface 73 x]).run Tryd.prog W = .ok (.enter 110 #[x]) W := by kernel_rfl
theorem inv_cd (x : Value) (W : World) : (invoke (.fn (.method "fairlead/show.texts") #[]) #[.iface 74 x]).run Tryd.prog W = .ok (.enter 111 #[x]) W := by kernel_rfl

/-- the row that a call told, appended. -/
theorem app_row {base : Nat} {w W w1 : World} {va v : Value} {l ms : List (List UInt8)} (hb : Below base w W) (hB : base ≤ W.heap.size) (ho : W.ownsRow base 9 1 va l.length (cellsT' l)) (h1 : w1.ownsRow W.heap.size 9 1 v ms.length (cellsT' ms)) (b1 : Below W.heap.size W w1) (h0 : 1 ≤ ms.length) (hl : l.length + ms.length ≤ 1000000) :
    ∃ g c, v = .slice (some ⟨g, 0, none⟩) ms.length c ∧ App base w w1 va g ms.length c (l ++ ms) := by
  obtain ⟨g, c, rfl, _, _, _⟩ := owns_addr h1 (by omega)
  exact ⟨g, c, rfl, app_mk ms rfl (hb.trans (b1.mono hB)) (Nat.le_trans hB b1.size) (owns_below ho b1 (Nat.le_refl _)) (fun j u hu => owns_cells1 h1 j u hu) hl⟩

set_option maxHeartbeats 1000000 in
theorem line_any (T : List Int) (w : World) (base : Nat) (v : Value) (l : List Sh) (ho : w.ownsRow base 70 1 v l.length (l.map Sh.val)) (hok : ∀ x ∈ l, x.ok w) (h0 : 1 ≤ l.length) (hl : l.length ≤ 100) (hj : (Lib.join (flat T l) [32]).length ≤ 100000000) (ht : Tb T w) :
    Calls Tryd.prog 12 #[v] w fun e w' => e = .returned (.string (bar (lineT T l))) ∧ Below w.heap.size w w' := by
  obtain ⟨g, cap, rfl, _, hgw, hcap⟩ := owns_addr ho (by omega)
  have HC : Hid (∀ (i : Nat) (h : i < l.length), w.cell? ⟨g, i, none⟩ = some (l[i]).val) := fun i h => owns_cells1 ho i _ (by rw [List.getElem?_map, List.getElem?_eq_getElem h]; rfl)
  have HOK : Hid (∀ x ∈ l, x.ok w) := hok
  have HT : Hid (Tb T w) := ht
  have HJ : Hid ((Lib.join (flat T l) [32]).length ≤ 100000000) := hj
  have HG : Hid (g < w.heap.size) := hgw
  have hcl : (l.length : Int) ≤ 100 := by omega
  clear ho hok ht hj hgw
  generalize hR : lineT T l = R
  have HR : Hid (Lib.join (flat T l) [32] ++ [59, 10] = R) := hR
  clear hR
  go_enter Tryd.func12, Tryd.ntmps12
  go_wp2
  go_loopw [3, 8] (fun v3 vi wr => ∃ (va : Value) (i : Nat), va = v3 ∧ vi = .int .i64 i ∧ i ≤ l.length ∧ wr.ownsRow w.heap.size 9 1 va (flat T (l.take i)).length (cellsT' (flat T (l.take i))) ∧ Below w.heap.size w wr) (fun _ vi _ => l.length - (intOf vi).toNat)
  case atStart => exact ⟨_, 0, rfl, rfl, Nat.zero_le _, World.ownsRow_nil _ _ _ _, Below.refl _ _⟩
  case round =>
    obtain ⟨va, i, rfl, rfl, hi, ho, hb⟩ := hrel
    have HB : Hid (Below w.heap.size w wr) := hb
    have HO : Hid (wr.ownsRow w.heap.size 9 1 va (flat T (l.take i)).length (cellsT' (flat T (l.take i)))) := ho
    clear ho
    by_cases hlt : i < l.length
    · have hi1 : (i : Int) < (l.length : Int) := by omega
      have e1 : wr.cell? ⟨g, i, none⟩ = some (l[i]).val := cellS (HC.out i hlt) (hb.block g HG.out)
      have HX : Hid ((l[i]).ok wr) := (HOK.out _ (List.getElem_mem hlt)).below hb
      have HF : Hid (flat T (l.take (i + 1)) = flat T (l.take i) ++ (l[i]).txt T) := flat_step hlt
      have HLN : Hid ((flat T (l.take i)).length ≤ 2000) := by
        have := flat_len (T := T) (W := w) (l.take i) fun x hx => HOK.out x (List.mem_of_mem_take hx)
        have h2 : (l.take i).length ≤ i := List.length_take_le _ _
        show (flat T (l.take i)).length ≤ 2000
        omega
      have HT2 : Hid (Tb T wr) := HT.out.below hb
      clear hb
      generalize flat T (l.take i) = L at *
      generalize hx : l[i] = x at *
      clear hx
      cases x with
      | wd s =>
        have HM : Hid (∀ W, Below wr.heap.size wr W → Calls Tryd.prog 106 #[.string s] W fun e w' => Row W w' e ([lst s])) := fun W hW => wordT_any s W
        have HTL : Hid (1 ≤ ([lst s]).length ∧ ([lst s]).length ≤ 16) := Sh.txt_len (x := .wd s) T HX.out
        have HF2 : Hid (flat T (l.take (i + 1)) = L ++ [lst s]) := HF.out
        clear HF
        have e2 : wr.cell? ⟨g, i, none⟩ = some (.iface 52 (.string s)) := e1
        clear e1
        generalize [lst s] = MS at *
        go_wp2_with (first | (refine at_opS (.call { callee := .invoke (.tmp 13) "fairlead/show.texts", args := #[], argTypes := #[] }) rfl ?_; refine wpList_invoke rfl (.tmp 13) _ rfl 52 _ rfl 106 (inv_wd _) (HM.out _ (Below.refl _ _)) ?_; rintro e w1 ⟨v1, rfl, o1, b1⟩; obtain ⟨g1, c1, rfl, HA0⟩ := app_row HB.out HB.out.size HO.out o1 b1 HTL.out.1 (by have := HLN.out; have := HTL.out.2; omega); have HA : Hid (App w.heap.size w w1 va g1 MS.length c1 (L ++ MS)) := HA0; clear HA0 o1 b1; refine ⟨_, rfl, ?_⟩) | (at_builtin; refine AppG.list HA.out (.tmp 12) (.tmp 14) rfl rfl rfl rfl ?_; intro v5 w5 h5 b5))
        go_roundw
        case rel => exact ⟨_, i + 1, rfl, by go_num, hlt, by rw [HF2.out]; exact h5, b5⟩
        case measure => simp [intOf]; omega
      | ac k a =>
        have HM : Hid (∀ W, Below wr.heap.size wr W → Calls Tryd.prog 107 #[.agg #[.int .i64 k, .int .i64 a]] W fun e w' => Row W w' e (actT T k a)) := fun W hW => actT_any T k a HX.out.1 HX.out.2.1 HX.out.2.2.1 HX.out.2.2.2 W (HT2.out.below hW)
        have HTL : Hid (1 ≤ (actT T k a).length ∧ (actT T k a).length ≤ 16) := Sh.txt_len (x := .ac k a) T HX.out
        have HF2 : Hid (flat T (l.take (i + 1)) = L ++ actT T k a) := HF.out
        clear HF
        have e2 : wr.cell? ⟨g, i, none⟩ = some (.iface 53 (.agg #[.int .i64 k, .int .i64 a])) := e1
        clear e1
        generalize actT T k a = MS at *
        go_wp2_with (first | (refine at_opS (.call { callee := .invoke (.tmp 13) "fairlead/show.texts", args := #[], argTypes := #[] }) rfl ?_; refine wpList_invoke rfl (.tmp 13) _ rfl 53 _ rfl 107 (inv_ac _) (HM.out _ (Below.refl _ _)) ?_; rintro e w1 ⟨v1, rfl, o1, b1⟩; obtain ⟨g1, c1, rfl, HA0⟩ := app_row HB.out HB.out.size HO.out o1 b1 HTL.out.1 (by have := HLN.out; have := HTL.out.2; omega); have HA : Hid (App w.heap.size w w1 va g1 MS.length c1 (L ++ MS)) := HA0; clear HA0 o1 b1; refine ⟨_, rfl, ?_⟩) | (at_builtin; refine AppG.list HA.out (.tmp 12) (.tmp 14) rfl rfl rfl rfl ?_; intro v5 w5 h5 b5))
        go_roundw
        case rel => exact ⟨_, i + 1, rfl, by go_num, hlt, by rw [HF2.out]; exact h5, b5⟩
        case measure => simp [intOf]; omega
      | nm v ns =>
        have HM : Hid (∀ W, Below wr.heap.size wr W → Calls Tryd.prog 110 #[v] W fun e w' => Row W w' e (namesT ns)) := fun W hW => namesT_any W v ns (HX.out.1.below hW) HX.out.2.1 HX.out.2.2.1 HX.out.2.2.2
        have HTL : Hid (1 ≤ (namesT ns).length ∧ (namesT ns).length ≤ 16) := Sh.txt_len (x := .nm v ns) T HX.out
        have HF2 : Hid (flat T (l.take (i + 1)) = L ++ namesT ns) := HF.out
        clear HF
        have e2 : wr.cell? ⟨g, i, none⟩ = some (.iface 73 v) := e1
        clear e1
        generalize namesT ns = MS at *
        go_wp2_with (first | (refine at_opS (.call { callee := .invoke (.tmp 13) "fairlead/show.texts", args := #[], argTypes := #[] }) rfl ?_; refine wpList_invoke rfl (.tmp 13) _ rfl 73 _ rfl 110 (inv_nm _) (HM.out _ (Below.refl _ _)) ?_; rintro e w1 ⟨v1, rfl, o1, b1⟩; obtain ⟨g1, c1, rfl, HA0⟩ := app_row HB.out HB.out.size HO.out o1 b1 HTL.out.1 (by have := HLN.out; have := HTL.out.2; omega); have HA : Hid (App w.heap.size w w1 va g1 MS.length c1 (L ++ MS)) := HA0; clear HA0 o1 b1; refine ⟨_, rfl, ?_⟩) | (at_builtin; refine AppG.list HA.out (.tmp 12) (.tmp 14) rfl rfl rfl rfl ?_; intro v5 w5 h5 b5))
        go_roundw
        case rel => exact ⟨_, i + 1, rfl, by go_num, hlt, by rw [HF2.out]; exact h5, b5⟩
        case measure => simp [intOf]; omega
      | cd x =>
        have HM : Hid (∀ W, Below wr.heap.size wr W → Calls Tryd.prog 111 #[.agg #[.int .i64 x.arg, .int .i64 x.op, .int .u64 x.mask, .int .u64 x.val]] W fun e w' => Row W w' e (condT T x)) := fun W hW => condT_any T x HX.out.1 HX.out.2.1 HX.out.2.2.1 HX.out.2.2.2.1 HX.out.2.2.2.2.1 HX.out.2.2.2.2.2.1 HX.out.2.2.2.2.2.2.1 HX.out.2.2.2.2.2.2.2 W (HT2.out.below hW)
        have HTL : Hid (1 ≤ (condT T x).length ∧ (condT T x).length ≤ 16) := Sh.txt_len (x := .cd x) T HX.out
        have HF2 : Hid (flat T (l.take (i + 1)) = L ++ condT T x) := HF.out
        clear HF
        have e2 : wr.cell? ⟨g, i, none⟩ = some (.iface 74 (.agg #[.int .i64 x.arg, .int .i64 x.op, .int .u64 x.mask, .int .u64 x.val])) := e1
        clear e1
        generalize condT T x = MS at *
        go_wp2_with (first | (refine at_opS (.call { callee := .invoke (.tmp 13) "fairlead/show.texts", args := #[], argTypes := #[] }) rfl ?_; refine wpList_invoke rfl (.tmp 13) _ rfl 74 _ rfl 111 (inv_cd _) (HM.out _ (Below.refl _ _)) ?_; rintro e w1 ⟨v1, rfl, o1, b1⟩; obtain ⟨g1, c1, rfl, HA0⟩ := app_row HB.out HB.out.size HO.out o1 b1 HTL.out.1 (by have := HLN.out; have := HTL.out.2; omega); have HA : Hid (App w.heap.size w w1 va g1 MS.length c1 (L ++ MS)) := HA0; clear HA0 o1 b1; refine ⟨_, rfl, ?_⟩) | (at_builtin; refine AppG.list HA.out (.tmp 12) (.tmp 14) rfl rfl rfl rfl ?_; intro v5 w5 h5 b5))
        go_roundw
        case rel => exact ⟨_, i + 1, rfl, by go_num, hlt, by rw [HF2.out]; exact h5, b5⟩
        case measure => simp [intOf]; omega
    · have hge : ¬ (i : Int) < (l.length : Int) := by omega
      have hfull : flat T (l.take i) = flat T l := by rw [List.take_of_length_le (by omega)]
      have hpos : 1 ≤ (flat T l).length := by
        cases hl2 : l with
        | nil => rw [hl2] at h0; simp at h0
        | cons x r =>
          have h1 := (Sh.txt_len T (HOK.out x (by rw [hl2]; exact List.mem_cons_self))).1
          show 1 ≤ (x.txt T ++ flat T r).length
          rw [List.length_append]
          omega
      have hmax : (flat T l).length ≤ 1600 := by
        have := flat_len (T := T) (W := w) l HOK.out
        omega
      rw [hfull] at HO
      clear hfull HC HOK HT
      generalize flat T l = L at *
      obtain ⟨g1, c1, rfl, _, hg1, hc1⟩ := owns_addr HO.out (by omega)
      have HJN : Hid (Calls Tryd.prog 23 #[.slice (some ⟨g1, 0, none⟩) L.length c1, .string ⟨#[32]⟩] wr fun e w' => e = .returned (.string (bar (Lib.join L [32]))) ∧ Below wr.heap.size wr w') := by
        have hm : (L.map bar).map (fun x : ByteArray => x.data.toList) = L := by
          rw [List.map_map]
          have : ((fun x : ByteArray => x.data.toList) ∘ bar) = id := by funext t; simp [bar]
          rw [this]
          simp
        have hJ := Tryd.strings_Join g1 0 c1 (L.map bar) ⟨#[32]⟩ wr (fun j x hx => by
          rw [Nat.zero_add]
          refine owns_cells1 HO.out j _ ?_
          rw [List.getElem?_map] at hx
          simp only [cellsT', List.getElem?_map]
          cases hj : L[j]? with
          | none => rw [hj] at hx; cases hx
          | some y => rw [hj] at hx; cases hx; rfl) hg1 (by simp; omega) (by simp; omega) (by rw [hm]; have := HJ.out; show (Lib.join L [32]).length ≤ _; omega)
        rw [hm, List.length_map] at hJ
        exact hJ
      have hsz : (bar (Lib.join L [32])).size ≤ 100000000 := by rw [bar_size]; exact HJ.out
      have hcat : bar (Lib.join L [32]) ++ (⟨#[59, 10]⟩ : ByteArray) = bar (Lib.join L [32] ++ [59, 10]) := bar_append _ [59, 10]
      have HRS : Hid (bar (Lib.join L [32] ++ [59, 10]) = bar R) := by show bar _ = _; rw [HR.out]
      clear hb HR HJ HO
      generalize Lib.join L [32] ++ [59, 10] = LL at *
      generalize bar (Lib.join L [32]) = JB at *
      go_wp2_with fail
      refine HJN.out.mono ?_
      rintro e w2 ⟨rfl, b2⟩
      go_wp2_with fail
      go_ret
      exact ⟨by rw [HRS.out]; rfl, HB.out.trans (b2.mono HB.out.size)⟩

end Go.Proofs.YtcllgpbgikidjaaDoor
