/-
  The parts of a target, as the program has them: cut at each slash, then what does not matter left out.
-/
import Derived.Test.YtilemgpopjlchaaDoorTSm
import Derived.Test.YtilemgpopjlchaaDoorDMem
import Derived.Test.YtilemgpopjlchaaDoorVMath3
import Derived.Test.YtilemgpopjlchaaDoorShelf
import Derived.Lib.IndexBytes
namespace Go.Proofs.YtilemgpopjlchaaDoor
open Go.RowKit Go.Shelf Go.Sort

theorem split_sl : ∀ (k : Nat) (s : Nm), s.count 47 = k → Lib.splitK [47] 0 k s = segA [] s := by
  intro k
  induction k with
  | zero =>
    intro s hs
    have hn : (47 : UInt8) ∉ s := List.count_eq_zero.1 hs
    rw [segA_one _ _ hn]
    rfl
  | succ k ih =>
    intro s hs
    have hi := Lib.index_one s 47
    have hm : (47 : UInt8) ∈ s := List.count_pos_iff.1 (by omega)
    obtain ⟨o, ho⟩ : ∃ o : Nat, Lib.indexByte s 47 = o := by
      by_cases h : Lib.indexByte s 47 = -1
      · exfalso
        obtain ⟨j, hj⟩ := List.getElem?_of_mem hm
        exact Lib.indexByte_none h j hj
      · exact ⟨(Lib.indexByte s 47).toNat, by have := Lib.indexByte_ge s 47; omega⟩
    obtain ⟨h1, h2⟩ := Lib.indexByte_some ho
    have hlt := (List.getElem?_eq_some_iff.1 h1).1
    have hsp : s = s.take o ++ 47 :: s.drop (o + 1) := by
      conv => lhs; rw [← List.take_append_drop o s]
      rw [List.drop_eq_getElem_cons hlt, (List.getElem?_eq_some_iff.1 h1).2]
    have hno : (47 : UInt8) ∉ s.take o := fun hmem => by
      obtain ⟨j, hj⟩ := List.getElem?_of_mem hmem
      rw [List.getElem?_take] at hj
      split at hj
      · exact h2 j (by assumption) hj
      · cases hj
    have hcount : (s.drop (o + 1)).count 47 = k := by
      have := congrArg (List.count 47) hsp
      rw [List.count_append, List.count_cons_self, List.count_eq_zero.2 hno] at this
      omega
    have hseg : segA [] s = s.take o :: segA [] (s.drop (o + 1)) := by
      conv => lhs; rw [hsp]
      rw [segA_app, segA_one _ _ hno]
      rfl
    unfold Lib.splitK
    rw [hi, ho, if_neg (by simp only [beq_iff_eq]; omega), hseg]
    have e1 : ((o : Int).toNat + 0) = o := by omega
    have e2 : ((o : Int).toNat + ([47] : List UInt8).length) = o + 1 := by simp
    rw [e1, e2, ih _ hcount]

/-- cut at each slash. -/
theorem tsplit_any (s : ByteArray) (w : World) (hs : s.size ≤ 5000) :
    Calls Tryd.prog 61 #[.string s, .string ⟨#[47]⟩] w fun e w' =>
      e = .returned (.slice (some ⟨w.heap.size, 0, none⟩) (segA [] (lst s)).length (segA [] (lst s)).length) ∧ w' = w.alloc (.cells (cellsT (segA [] (lst s))).toArray 9) := by
  obtain ⟨cn, hcn⟩ : ∃ cn, Lib.countB s ⟨#[47]⟩ = cn := ⟨_, rfl⟩
  have hc1 : (lst s).count 47 = cn := by
    rw [← hcn]
    exact (Lib.count_one 47 (lst s)).symm
  have hcl : cn ≤ s.size := hcn ▸ Lib.countB_le ⟨#[47]⟩ (Nat.le_refl _) s.size s (Nat.le_refl _)
  have c := Any.strings_genSplit_core Tryd.lays221 (by kernel_rfl) s ⟨#[47]⟩ 0 (-1) (cn + 1) w (by omega) (Nat.le_refl _) (Nat.zero_le _)
    (fun x d hx => (Tryd.strings_Index_one x 47 _).mono fun e w' ⟨he, hw⟩ => ⟨by
      rw [he]
      show _ = Ending.returned (Value.int .i64 (Lib.index x.data.toList [47]))
      rw [Lib.index_one], hw⟩)
    ((Tryd.strings_Count_one s 47 w).mono fun e w' ⟨he, hw⟩ => ⟨by
      rw [he]
      show _ = Ending.returned (Value.int .i64 ((Lib.count s.data.toList [47] : Nat) : Int))
      rw [Lib.count_one]
      rfl, hw⟩)
    (by decide) (by decide) (by rw [if_pos (by decide), hcn]; omega)
  rw [Nat.add_sub_cancel] at c
  have hsb : (Lib.splitB ⟨#[47]⟩ 0 cn s).map (·.data.toList) = segA [] (lst s) := by
    rw [Lib.splitB_data]
    exact split_sl cn (lst s) hc1
  have hlen : (Lib.splitB ⟨#[47]⟩ 0 cn s).length = cn + 1 := Lib.splitB_all ⟨#[47]⟩ (Nat.le_refl _) 0 cn s hcn
  have hlen2 : (segA [] (lst s)).length = cn + 1 := by rw [← hsb, List.length_map, hlen]
  have hcells : Lib.cellsOf (Lib.splitB ⟨#[47]⟩ 0 cn s) (cn + 1) = (cellsT (segA [] (lst s))).toArray := by
    rw [← hlen, Lib.cellsOf_full, ← hsb]
    unfold cellsT
    rw [List.map_map]
    congr 1
  rw [hcells, hlen] at c
  have HC : Hid (Calls Tryd.prog 71 #[.string s, .string ⟨#[47]⟩, .int .i64 0, .int .i64 (-1)] w fun e w' =>
      e = .returned (.slice (some ⟨w.heap.size, 0, none⟩) (cn + 1) (cn + 1)) ∧ w' = w.alloc (.cells (cellsT (segA [] (lst s))).toArray 9)) := c
  rw [hlen2]
  clear c hcn hc1 hcl hsb hlen hlen2 hcells
  go_enter Tryd.func61, Tryd.ntmps61
  go_wp2_with fail
  refine HC.out.mono ?_
  rintro e w1 ⟨rfl, hw1⟩
  have HW : Hid (w1 = w.alloc (.cells (cellsT (segA [] (lst s))).toArray 9)) := hw1
  clear hw1
  go_wp2_with fail
  go_ret
  exact ⟨rfl, HW.out⟩

/-- what does not matter. -/
def dullN (x : Nm) : Bool := !goodN x
theorem dull_any (x : Nm) (W : World) : Calls Tryd.prog 62 #[.string (bar x)] W fun e w' => e = .returned (.bool (dullN x)) ∧ w' = W := by
  by_cases h0 : x = []
  · have e0 : ((bar x).toList == []) = true := by rw [toList_bar, h0]; rfl
    have e0' : (bar x).toList.isEmpty = true := by rw [toList_bar, h0]; rfl
    have HD : Hid (dullN x = true) := by show _ = _; rw [h0]; rfl
    clear h0
    generalize bar x = xb at *
    go_enter Tryd.func62, Tryd.ntmps62
    go_wp2
    go_ret
    exact ⟨by rw [HD.out]; rfl, rfl⟩
  · have e0 : ((bar x).toList == []) = false := by rw [toList_bar]; exact beq_eq_false_iff_ne.2 h0
    have e0' : (bar x).toList.isEmpty = false := by rw [toList_bar]; cases x; exact absurd rfl h0; rfl
    obtain ⟨q, hq⟩ : ∃ q, ((bar x).toList == [46]) = q := ⟨_, rfl⟩
    have HD : Hid (dullN x = q) := by
      show _ = _
      rw [← hq, toList_bar]
      unfold dullN goodN
      have : x.isEmpty = false := by cases x; exact absurd rfl h0; rfl
      rw [this]
      show (!(true && (x != [46]))) = (x == [46])
      rw [Bool.true_and]
      cases hx : x == [46] <;> simp [bne, hx]
    clear h0
    generalize bar x = xb at *
    go_enter Tryd.func62, Tryd.ntmps62
    go_wp2
    go_ret
    exact ⟨by rw [HD.out]; rfl, rfl⟩

theorem below_putRow {α : Type} [Inhabited α] (enc : α → Value) (w : World) (q blk off B : Nat) (d : Array α) (h : B ≤ blk) : Below B w (putRow enc (Sort.ahead w q) blk off d) := by
  refine ⟨rfl, rfl, rfl, by simp, fun k hk => ?_⟩
  unfold putRow mapBlock
  show (w.heap.modify blk _)[k]? = _
  rw [Array.getElem?_modify, if_neg (by omega)]

theorem tparts_any (s : ByteArray) (w : World) (hs : s.size ≤ 5000) : Calls Tryd.prog 46 #[.string s] w fun e w' => ∃ v, e = .returned v ∧ TxN w' v (partsP (lst s)) ∧ Below w.heap.size w w' := by
  have HSP : Hid (Calls Tryd.prog 61 #[.string s, .string ⟨#[47]⟩] w fun e w' =>
      e = .returned (.slice (some ⟨w.heap.size, 0, none⟩) (segA [] (lst s)).length (segA [] (lst s)).length) ∧ w' = w.alloc (.cells (cellsT (segA [] (lst s))).toArray 9)) := tsplit_any s w hs
  have hsl := seg_length [] (lst s)
  rw [lst_length] at hsl
  obtain ⟨d, hd⟩ : ∃ d, segA [] (lst s) = d := ⟨_, rfl⟩
  have HP : Hid (partsP (lst s) = d.filter fun x => !dullN x) := by
    show (segA [] (lst s)).filter goodN = _
    rw [hd]
    congr 1
    funext x
    unfold dullN
    rw [Bool.not_not]
  rw [hd] at HSP hsl
  clear hd
  have hb := heap_alloc_new w (.cells (cellsT d).toArray 9)
  have hH : Holds (fun x : Nm => .string (bar x)) (w.alloc (.cells (cellsT d).toArray 9)) w.heap.size 0 d.toArray := fun j hj => by
    have hj2 : j < d.length := by simpa using hj
    refine ⟨?_, frozen_of_row _ _ _ _ _ hb⟩
    rw [cell_of_row _ _ _ _ _ _ hb, Nat.zero_add, getElem!_pos d.toArray j hj]
    unfold cellsT
    simp [List.getElem?_eq_getElem hj2]
  have hp : PredAt Tryd.prog 62 #[] (fun x : Nm => .string (bar x)) dullN (w.alloc (.cells (cellsT d).toArray 9)) := fun W x _ => (dull_any x W).mono fun e w' ⟨h1, h2⟩ => ⟨h1, 0, h2⟩
  have hpo : PredOver Tryd.prog 62 #[] (fun x : Nm => .string (bar x)) dullN w.heap.size 0 d.toArray.size (w.alloc (.cells (cellsT d).toArray 9)) := fun n os dk x _ => (dull_any x _).mono fun e w' ⟨h1, h2⟩ => ⟨h1, 0, h2⟩
  have hcon := Tryd.slices_DeleteFunc (fun x : Nm => .string (bar x)) (fun _ => rfl) dullN 62 #[] (enters_of Tryd.func62 (by kernel_rfl) rfl) [] Tryd.zeroValue9 w.heap.size 0 d.toArray.size d.toArray (w.alloc (.cells (cellsT d).toArray 9)) hp hpo hH (by simp; omega) (Nat.le_refl _)
  have e1 : d.toArray.size = d.length := List.size_toArray
  have e2 : d.toArray.toList = d := rfl
  rw [e1, e2] at hcon
  have hfl : (d.filter fun x => !dullN x).length ≤ d.length := List.length_filter_le _ _
  have HC : Hid (Calls Tryd.prog 60 #[.slice (some ⟨w.heap.size, 0, none⟩) d.length d.length, .func (.func 62) #[] #[]] (w.alloc (.cells (cellsT d).toArray 9)) fun e w' => ∃ v, e = .returned v ∧ TxN w' v (d.filter fun x => !dullN x) ∧ Below w.heap.size w w') := by
    refine Calls.mono hcon fun e w' ⟨he, q, hw⟩ => ⟨_, he, ⟨_, _, rfl, (fun e => by cases e), hfl, fun _ => ⟨w.heap.size, 0, rfl, fun i x hi => ?_⟩⟩, ?_⟩
    · have hil := (List.getElem?_eq_some_iff.1 hi).1
      rw [hw]
      have hsz : ((d.filter fun x => !dullN x) ++ List.replicate (d.length - (d.filter fun x => !dullN x).length) []).toArray.size = d.toArray.size := by
        simp
        omega
      have hc := cell?_putRow (fun x : Nm => .string (bar x)) (Sort.ahead (w.alloc (.cells (cellsT d).toArray 9)) q) w.heap.size 0 d.toArray ((d.filter fun x => !dullN x) ++ List.replicate (d.length - (d.filter fun x => !dullN x).length) []).toArray (holds_ahead _ _ _ _ _ _ hH) hsz i (by rw [hsz]; simp; omega)
      rw [hc]
      have hx : ((d.filter fun x => !dullN x) ++ List.replicate (d.length - (d.filter fun x => !dullN x).length) []).toArray[i]! = x := by
        rw [getElem!_pos _ i (by rw [hsz]; simp; omega), List.getElem_toArray, List.getElem_append_left hil]
        exact (List.getElem?_eq_some_iff.1 hi).2
      rw [hx]
    · rw [hw]
      exact (below_new w _).trans ((below_putRow _ _ _ _ _ _ _ (Nat.le_refl _)).mono (Nat.le_refl _))
  clear hcon hp hpo hH hb hfl
  rw [HP.out]
  generalize (d.filter fun x => !dullN x) = F at *
  go_enter Tryd.func46, Tryd.ntmps46
  go_wp2_with fail
  refine HSP.out.mono ?_
  rintro e w1 ⟨rfl, hw1⟩; subst w1
  go_wp2_with fail
  refine HC.out.mono ?_
  rintro e w2 ⟨v2, rfl, h2, hb2⟩
  have H2 : Hid (TxN w2 v2 F ∧ Below w.heap.size w w2) := ⟨h2, hb2⟩
  clear h2 hb2
  go_wp2_with fail
  go_ret
  exact ⟨_, rfl, H2.out.1, H2.out.2⟩

end Go.Proofs.YtilemgpopjlchaaDoor
