/-
  The document's Parts.
-/
import Derived.Test.YtilemgpopjlchaaDoorVIfc
namespace Go.Proofs.YtilemgpopjlchaaDoor
open Go.RowKit

/-- so far: the names, where the one at hand begins, how far it goes. -/
structure PtI (l : List UInt8) (n f i : Nat) (L : List (List UInt8)) : Prop where
  fi : f ≤ i
  i1 : i ≤ n + 1
  eq : (i ≤ n ∧ namesA [] l = L ++ namesA ((l.drop f).take (i - f)) (l.drop i)) ∨ (i = n + 1 ∧ namesA [] l = L)
  len : L.length ≤ i
theorem PtI.start (l : List UInt8) : PtI l l.length 0 0 [] := ⟨Nat.le_refl _, by omega, .inl ⟨Nat.zero_le _, by simp⟩, by simp⟩
theorem PtI.on {l : List UInt8} {n f i : Nat} {L : List (List UInt8)} (h : PtI l n f i L) (hn : l.length = n) {c : UInt8} (hc : l[i]? = some c) (h47 : c ≠ 47) : PtI l n f (i + 1) L := by
  obtain ⟨h2, h3, h4, h5⟩ := h
  have hi := (List.getElem?_eq_some_iff.1 hc).1
  refine ⟨by omega, by omega, .inl ⟨by omega, ?_⟩, by omega⟩
  rcases h4 with ⟨_, h4⟩ | ⟨h4, _⟩
  · rw [h4, List.drop_eq_getElem_cons hi, (List.getElem?_eq_some_iff.1 hc).2, namesA_no _ _ h47]
    congr 2
    have e1 : i + 1 - f = (i - f) + 1 := by omega
    rw [e1, List.take_add_one, List.getElem?_drop, show f + (i - f) = i by omega, hc]
    rfl
  · omega
theorem PtI.cut {l : List UInt8} {n f i : Nat} {L : List (List UInt8)} (h : PtI l n f i L) (hn : l.length = n) (hi : i ≤ n) (hc : i = n ∨ l[i]? = some 47) :
    (goodN ((l.drop f).take (i - f)) = false → PtI l n (i + 1) (i + 1) L) ∧ (goodN ((l.drop f).take (i - f)) = true → PtI l n (i + 1) (i + 1) (L ++ [(l.drop f).take (i - f)])) := by
  obtain ⟨h2, h3, h4, h5⟩ := h
  have key : ∀ M : List (List UInt8), (if goodN ((l.drop f).take (i - f)) = true then [(l.drop f).take (i - f)] else []) = M → (L ++ M).length ≤ i + 1 → PtI l n (i + 1) (i + 1) (L ++ M) := fun M hM hl => by
    refine ⟨Nat.le_refl _, by omega, ?_, hl⟩
    rcases h4 with ⟨_, h4⟩ | ⟨h4, _⟩
    · rcases hc with hc | hc
      · refine .inr ⟨by omega, ?_⟩
        rw [h4, List.drop_of_length_le (by omega : l.length ≤ i), namesA_nil, hM]
      · have hlt := (List.getElem?_eq_some_iff.1 hc).1
        refine .inl ⟨by omega, ?_⟩
        rw [h4, List.drop_eq_getElem_cons hlt, (List.getElem?_eq_some_iff.1 hc).2, namesA_sl, hM, Nat.sub_self, List.take_zero, List.append_assoc]
    · omega
  constructor
  · intro hg
    have := key [] (by rw [hg]; rfl) (by rw [List.append_nil]; omega)
    rwa [List.append_nil] at this
  · intro hg
    exact key _ (by rw [if_pos hg]) (by rw [List.length_append]; show L.length + 1 ≤ _; omega)
theorem PtI.done {l : List UInt8} {n f i : Nat} {L : List (List UInt8)} (h : PtI l n f i L) (hi : ¬ i ≤ n) : namesA [] l = L := by
  rcases h.eq with ⟨h1, _⟩ | ⟨_, h2⟩
  · exact absurd h1 hi
  · exact h2

set_option maxHeartbeats 8000000 in
theorem dparts_any (s : ByteArray) (w : World) (hs : s.size ≤ 90000) :
    Calls Tryd.prog 49 #[.string s] w fun e w' => RowR w (partsP (lst s)) e w' := by
  have HS : Hid (s.size ≤ 90000) := hs
  have HN : Hid (partsP (lst s) = namesA [] (lst s)) := rfl
  have HST : Hid (PtI (lst s) s.size 0 0 []) := by
    have := PtI.start (lst s)
    rw [lst_length] at this
    exact this
  go_enter Tryd.func49, Tryd.ntmps49
  go_wp2_with fail
  go_loopw [3, 4, 5] (fun v3 v4 v5 wr => ∃ (f i : Nat) (L : List (List UInt8)), v4 = .int .i64 f ∧ v5 = .int .i64 i ∧ wr.ownsRow w.heap.size 9 1 v3 L.length (cellsT L) ∧ Below w.heap.size w wr ∧ w.heap.size ≤ wr.heap.size ∧ PtI (lst s) s.size f i L) (fun _ _ v5 _ => s.size + 1 - (intOf v5).toNat)
  case atStart => exact ⟨0, 0, [], rfl, rfl, ⟨rfl, .inl ⟨rfl, rfl⟩⟩, Below.refl _ _, Nat.le_refl _, HST.out⟩
  case round =>
    obtain ⟨f, i, L, rfl, rfl, hrow, hbw, hsz, hni⟩ := hrel
    have H1 : Hid (wr.ownsRow w.heap.size 9 1 _ L.length (cellsT L) ∧ Below w.heap.size w wr ∧ w.heap.size ≤ wr.heap.size) := ⟨hrow, hbw, hsz⟩
    have HNI : Hid (PtI (lst s) s.size f i L) := hni
    have hfi0 := hni.fi
    have hi1 := hni.i1
    have hii : i ≤ 90001 := by have := HS.out; omega
    clear hrow hbw hsz hni
    by_cases hle : i ≤ s.size
    · have hle1 : (i : Int) ≤ (s.size : Int) := by omega
      by_cases hen : i = s.size
      · have hen1 : ((i : Int) == (s.size : Int)) = true := by rw [hen]; simp
        have HCUT : Hid ((goodN (((lst s).drop f).take (i - f)) = false → PtI (lst s) s.size (i + 1) (i + 1) L) ∧ (goodN (((lst s).drop f).take (i - f)) = true → PtI (lst s) s.size (i + 1) (i + 1) (L ++ [((lst s).drop f).take (i - f)]))) := HNI.out.cut (lst_length s) hle (.inl hen)
        clear hen
        by_cases hfi : f < i
        · have hfi1 : (f : Int) < (i : Int) := by omega
          have hfi2 : decide ((f : Int) < (i : Int)) = true := decide_eq_true hfi1
          have hfi3 : (f : Int) ≤ (i : Int) := by omega
          have hin : (i : Int) ≤ (s.size : Int) := by omega
          by_cases hdt : ((lst s).drop f).take (i - f) = [46]
          · have hcm : ((s.extract f i).toList == [46]) = true := by rw [toList_extract, hdt]; rfl
            have HG : Hid (goodN (((lst s).drop f).take (i - f)) = false) := by show _ = _; rw [hdt]; rfl
            have HNX := HCUT.out.1 HG.out
            have HNX' : Hid (PtI (lst s) s.size (i + 1) (i + 1) L) := HNX
            clear hdt HNX
            go_wp2_with fail
            go_roundw
            case rel => exact ⟨i + 1, i + 1, L, by go_num, by go_num, H1.out.1, H1.out.2.1, H1.out.2.2, HNX'.out⟩
            case measure => simp [intOf]; omega
          · have hcm : ((s.extract f i).toList == [46]) = false := by
              rw [toList_extract]
              exact beq_eq_false_iff_ne.2 hdt
            have HG : Hid (goodN (((lst s).drop f).take (i - f)) = true) := by
              show _ = _
              unfold goodN
              have hne : ((lst s).drop f).take (i - f) ≠ [] := fun e => by
                have h9 := congrArg List.length e
                rw [List.length_take, List.length_drop, lst_length] at h9
                simp at h9
                omega
              cases hz : ((lst s).drop f).take (i - f) with
              | nil => exact absurd hz hne
              | cons c r =>
                rw [hz] at hdt
                simpa using hdt
            have HNX := HCUT.out.2 HG.out
            have HNX' : Hid (PtI (lst s) s.size (i + 1) (i + 1) (L ++ [((lst s).drop f).take (i - f)])) := HNX
            have HLN : Hid (L.length ≤ 100000 - 1) := by
              show _ ≤ _
              have := HNI.out.len
              have := HS.out
              omega
            clear hdt HNX
            go_wp2_with (first
              | (at_builtin; refine list_app (ys := [.string (s.extract f i)]) ety_s rfl _ _ rfl rfl rfl (owns_below H1.out.1 (below_new _ _) (Nat.le_refl _)) (sc_one _ _ _) (by intro u hu; rw [List.mem_singleton.1 hu]; rfl) (by have := HLN.out; simp; omega) (Nat.le_trans H1.out.2.2 (below_new _ _).size) ?_; intro v7 w7 ha7; have HA7 : Hid (App 9 w.heap.size (wr.alloc (.cells #[.string (s.extract f i)] 9)) w7 _ v7 (cellsT L ++ [.string (s.extract f i)])) := ha7; clear ha7)
              | go_in)
            have H8 : Hid (w7.ownsRow w.heap.size 9 1 v7 (L ++ [((lst s).drop f).take (i - f)]).length (cellsT (L ++ [((lst s).drop f).take (i - f)])) ∧ Below w.heap.size w w7 ∧ w.heap.size ≤ w7.heap.size) := by
              have h1 := HA7.out.own
              have e1 : cellsT L ++ [.string (s.extract f i)] = cellsT (L ++ [((lst s).drop f).take (i - f)]) := by rw [cellsT_app, extract_bar]; rfl
              rw [e1, cellsT_len] at h1
              have h2 := HA7.out.below (owns_below H1.out.1 (below_new _ _) (Nat.le_refl _)) (H1.out.2.1.alloc H1.out.2.2 _)
              exact ⟨h1, h2, h2.size⟩
            go_roundw
            case rel => exact ⟨i + 1, i + 1, _, by go_num, by go_num, H8.out.1, H8.out.2.1, H8.out.2.2, HNX'.out⟩
            case measure => simp [intOf]; omega
        · have hfi1 : ¬ (f : Int) < (i : Int) := by omega
          have hfi2 : decide ((f : Int) < (i : Int)) = false := decide_eq_false hfi1
          have HG : Hid (goodN (((lst s).drop f).take (i - f)) = false) := by
            show _ = _
            rw [show i - f = 0 by omega]
            rfl
          have HNX := HCUT.out.1 HG.out
          have HNX' : Hid (PtI (lst s) s.size (i + 1) (i + 1) L) := HNX
          clear HNX
          go_wp2_with fail
          go_roundw
          case rel => exact ⟨i + 1, i + 1, L, by go_num, by go_num, H1.out.1, H1.out.2.1, H1.out.2.2, HNX'.out⟩
          case measure => simp [intOf]; omega
      · have hen1 : ((i : Int) == (s.size : Int)) = false := beq_eq_false_iff_ne.2 (by omega)
        have hlt : i < s.size := by omega
        have hlt1 : (i : Int) < (s.size : Int) := by omega
        have hat := lst_at s i hlt
        by_cases hc : s[i]'hlt = 47
        · have hq : (((s[i]'hlt).toNat : Int) == 47) = true := by rw [hc]; rfl
          have HCUT : Hid ((goodN (((lst s).drop f).take (i - f)) = false → PtI (lst s) s.size (i + 1) (i + 1) L) ∧ (goodN (((lst s).drop f).take (i - f)) = true → PtI (lst s) s.size (i + 1) (i + 1) (L ++ [((lst s).drop f).take (i - f)]))) := HNI.out.cut (lst_length s) hle (.inr (by rw [hat, hc]))
          clear hc hat hen
          by_cases hfi : f < i
          · have hfi1 : (f : Int) < (i : Int) := by omega
            have hfi2 : decide ((f : Int) < (i : Int)) = true := decide_eq_true hfi1
            have hfi3 : (f : Int) ≤ (i : Int) := by omega
            have hin : (i : Int) ≤ (s.size : Int) := by omega
            by_cases hdt : ((lst s).drop f).take (i - f) = [46]
            · have hcm : ((s.extract f i).toList == [46]) = true := by rw [toList_extract, hdt]; rfl
              have HG : Hid (goodN (((lst s).drop f).take (i - f)) = false) := by show _ = _; rw [hdt]; rfl
              have HNX := HCUT.out.1 HG.out
              have HNX' : Hid (PtI (lst s) s.size (i + 1) (i + 1) L) := HNX
              clear hdt HNX
              go_wp2_with fail
              go_roundw
              case rel => exact ⟨i + 1, i + 1, L, by go_num, by go_num, H1.out.1, H1.out.2.1, H1.out.2.2, HNX'.out⟩
              case measure => simp [intOf]; omega
            · have hcm : ((s.extract f i).toList == [46]) = false := by
                rw [toList_extract]
                exact beq_eq_false_iff_ne.2 hdt
              have HG : Hid (goodN (((lst s).drop f).take (i - f)) = true) := by
                show _ = _
                unfold goodN
                have hne : ((lst s).drop f).take (i - f) ≠ [] := fun e => by
                  have h9 := congrArg List.length e
                  rw [List.length_take, List.length_drop, lst_length] at h9
                  simp at h9
                  omega
                cases hz : ((lst s).drop f).take (i - f) with
                | nil => exact absurd hz hne
                | cons c r =>
                  rw [hz] at hdt
                  simpa using hdt
              have HNX := HCUT.out.2 HG.out
              have HNX' : Hid (PtI (lst s) s.size (i + 1) (i + 1) (L ++ [((lst s).drop f).take (i - f)])) := HNX
              have HLN : Hid (L.length ≤ 100000 - 1) := by
                show _ ≤ _
                have := HNI.out.len
                have := HS.out
                omega
              clear hdt HNX
              go_wp2_with (first
                | (at_builtin; refine list_app (ys := [.string (s.extract f i)]) ety_s rfl _ _ rfl rfl rfl (owns_below H1.out.1 (below_new _ _) (Nat.le_refl _)) (sc_one _ _ _) (by intro u hu; rw [List.mem_singleton.1 hu]; rfl) (by have := HLN.out; simp; omega) (Nat.le_trans H1.out.2.2 (below_new _ _).size) ?_; intro v7 w7 ha7; have HA7 : Hid (App 9 w.heap.size (wr.alloc (.cells #[.string (s.extract f i)] 9)) w7 _ v7 (cellsT L ++ [.string (s.extract f i)])) := ha7; clear ha7)
                | go_in)
              have H8 : Hid (w7.ownsRow w.heap.size 9 1 v7 (L ++ [((lst s).drop f).take (i - f)]).length (cellsT (L ++ [((lst s).drop f).take (i - f)])) ∧ Below w.heap.size w w7 ∧ w.heap.size ≤ w7.heap.size) := by
                have h1 := HA7.out.own
                have e1 : cellsT L ++ [.string (s.extract f i)] = cellsT (L ++ [((lst s).drop f).take (i - f)]) := by rw [cellsT_app, extract_bar]; rfl
                rw [e1, cellsT_len] at h1
                have h2 := HA7.out.below (owns_below H1.out.1 (below_new _ _) (Nat.le_refl _)) (H1.out.2.1.alloc H1.out.2.2 _)
                exact ⟨h1, h2, h2.size⟩
              go_roundw
              case rel => exact ⟨i + 1, i + 1, _, by go_num, by go_num, H8.out.1, H8.out.2.1, H8.out.2.2, HNX'.out⟩
              case measure => simp [intOf]; omega
          · have hfi1 : ¬ (f : Int) < (i : Int) := by omega
            have hfi2 : decide ((f : Int) < (i : Int)) = false := decide_eq_false hfi1
            have HG : Hid (goodN (((lst s).drop f).take (i - f)) = false) := by
              show _ = _
              rw [show i - f = 0 by omega]
              rfl
            have HNX := HCUT.out.1 HG.out
            have HNX' : Hid (PtI (lst s) s.size (i + 1) (i + 1) L) := HNX
            clear HNX
            go_wp2_with fail
            go_roundw
            case rel => exact ⟨i + 1, i + 1, L, by go_num, by go_num, H1.out.1, H1.out.2.1, H1.out.2.2, HNX'.out⟩
            case measure => simp [intOf]; omega
        · have hq : (((s[i]'hlt).toNat : Int) == 47) = false := u8_ne (d := 47) hc
          have HON : Hid (PtI (lst s) s.size f (i + 1) L) := HNI.out.on (lst_length s) hat hc
          clear hc hat hen
          go_wp2_with fail
          go_roundw
          case rel => exact ⟨f, i + 1, L, rfl, by go_num, H1.out.1, H1.out.2.1, H1.out.2.2, HON.out⟩
          case measure => simp [intOf]; omega
    · have hle1 : ¬ (i : Int) ≤ (s.size : Int) := by omega
      have HD := HNI.out.done hle
      have HD' : Hid (partsP (lst s) = L) := by show _ = _; rw [HN.out, HD]
      clear HD
      go_wp2_with fail
      go_ret
      exact ⟨_, rfl, by rw [HD'.out]; exact H1.out.1, H1.out.2.1⟩

end Go.Proofs.YtilemgpopjlchaaDoor
