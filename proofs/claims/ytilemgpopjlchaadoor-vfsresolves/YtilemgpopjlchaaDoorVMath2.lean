/-
  What the laws say of a tree, in plain words: a place that leads to itself, a tree without links, a link more, links in a row.
-/
import Derived.Test.YtilemgpopjlchaaDoorVMath
namespace Go.Proofs.YtilemgpopjlchaaDoor

theorem res_cases (L : List Nd) (p : Nm) : ((resV L p).1 = [] ∧ (resV L p).2.1 = 0 ∧ (resV L p).2.2 ≠ 0) ∨ (resV L p).2.2 = 0 := by
  unfold resV
  by_cases hc : (chkN L).1 = 0
  · rw [if_pos hc]
    by_cases hr : rightP p = true
    · rw [if_pos hr]
      cases hw : walkV L 8 [] (namesP p) with
      | inl e => exact .inl ⟨rfl, rfl, walk_err 8 _ _ _ hw⟩
      | inr b => exact .inr rfl
    · rw [if_neg hr]
      exact .inl ⟨rfl, rfl, by decide⟩
  · rw [if_neg hc]
    exact .inl ⟨rfl, rfl, hc⟩
/-- where a path leads, in the words of VfsLeads. -/
theorem res_leads {L : List Nd} {p : Nm} (h : (resV L p).2.2 = 0) : ∃ a k, resV L p = (a, k, 0) ∧ (k = 1 ∨ k = 2) ∧ a.length ≤ 256 ∧ cleanP a = a ∧ errP a = 0 ∧ resV L a = (a, k, 0) ∧ ∃ y, findN L a = some y ∧ y.k = k := by
  obtain ⟨hc, hT, hr, b, hb, hw, he⟩ := res_ok h
  obtain ⟨y, hy, hk, hk2⟩ := at_kind hb
  have hR := right_join hb.cl
  refine ⟨joinP b, kindOf L b, he, hk2, (right_iff.1 hR).1, ?_, ?_, ?_, y, hy, hk⟩
  · unfold cleanP
    rw [if_pos hR, left_join hb.cl]
  · unfold errP
    rw [if_pos hR]
  · unfold resV
    rw [if_pos hc, if_pos hR, names_join hb.cl, walk_self hT 8 hb]
    rfl

/-! a tree without links -/
theorem go_plain {L : List Nd} (hT : Tr L) (hno : ∀ x ∈ L, x.k ≠ 3) (k : List Nm → List Nm → Sum Int (List Nm)) {N : List Nm} : ∀ {a : List Nm}, At L a → (∀ n ∈ N, OkN n ∧ n ≠ [46, 46]) → findN L (joinP (a ++ N)) = none → goV L k a N = .inl 17 ∨ goV L k a N = .inl 20 := by
  induction N with
  | nil =>
    intro a ha _ hf
    rw [List.append_nil] at hf
    obtain ⟨y, hy, _⟩ := ha.st
    rw [hy] at hf
    cases hf
  | cons n r ih =>
    intro a ha hN hf
    obtain ⟨hn, hd⟩ := hN n (List.mem_cons_self ..)
    have e : a ++ n :: r = (a ++ [n]) ++ r := by rw [List.append_assoc]; rfl
    rw [e] at hf
    cases hx : findN L (joinP (a ++ [n])) with
    | none => exact .inl (go_none _ _ _ _ hd hx)
    | some x =>
      obtain ⟨_, _, _, hm⟩ := step_at hT ha.cl hn hd hx
      by_cases h1 : x.k = 1 ∧ r ≠ []
      · exact .inr (go_file _ _ _ hd hx h1.1 h1.2)
      · rw [go_on _ _ _ hd hx (hno x hm) (fun e => by
          by_cases e2 : r = []
          · exact e2
          · exact absurd ⟨e, e2⟩ h1)]
        exact ih (ha.step hT hn hd hx (hno x hm)) (fun m hm => hN m (List.mem_cons_of_mem _ hm)) hf
theorem plain_res {L : List Nd} {p : Nm} (hc : (chkN L).1 = 0) (hr : rightP p = true) (hno : ∀ x ∈ L, x.k ≠ 3) (hd : ∀ n ∈ namesP p, n ≠ [46, 46]) :
    (∀ y, findN L (cleanP p) = some y → resV L p = (cleanP p, y.k, 0)) ∧ (findN L (cleanP p) = none → (resV L p).2.2 = 17 ∨ (resV L p).2.2 = 20) := by
  have hT := tr_of hc
  have hl : leftP p = namesP p := by
    unfold leftP leftL
    rw [left_self hd]
    rfl
  have hcl : cleanP p = joinP (namesP p) := by
    unfold cleanP
    rw [if_pos hr, hl]
  have hC : Cl (namesP p) := hl ▸ cl_left p
  constructor
  · intro y hy
    rw [hcl] at hy ⊢
    have hk : y.k = 1 ∨ y.k = 2 := by
      unfold findN at hy
      split at hy
      · cases hy
        exact .inr rfl
      · obtain ⟨h1, _⟩ := findL_some hy
        rcases kind_ok (hT.mem h1).2.2.1 with h | h | h
        · exact .inl h
        · exact .inr h
        · exact absurd h.1 (hno y h1)
    have hA : At L (namesP p) := ⟨hC, y, hy, hk⟩
    unfold resV
    rw [if_pos hc, if_pos hr, walk_self hT 8 hA]
    show (joinP (namesP p), kindOf L (namesP p), 0) = _
    unfold kindOf
    rw [hy]
  · intro hn
    rw [hcl] at hn
    unfold resV
    rw [if_pos hc, if_pos hr]
    have h := go_plain hT hno (walkV L 7) (at_root L) (N := namesP p) (fun n hn => ⟨names_ok n hn, hd n hn⟩) hn
    rcases h with h | h
    · left
      show (endV L (goV L (walkV L 7) [] (namesP p))).2.2 = 17
      rw [h]
      rfl
    · right
      show (endV L (goV L (walkV L 7) [] (namesP p))).2.2 = 20
      rw [h]
      rfl

/-! a link more -/
theorem go_mono {L M : List Nd} {k k' : List Nm → List Nm → Sum Int (List Nm)} (hk : ∀ a N b, k a N = .inr b → k' a N = .inr b) {N : List Nm} : ∀ {a b : List Nm}, goV L k a N = .inr b → goV (L ++ M) k' a N = .inr b := by
  induction N with
  | nil => intro a b h; exact h
  | cons n r ih =>
    intro a b h
    by_cases hd : n = [46, 46]
    · rw [go_dots _ _ _ _ hd] at h ⊢
      exact ih h
    · cases hf : findN L (joinP (a ++ [n])) with
      | none => rw [go_none _ _ _ _ hd hf] at h; cases h
      | some x =>
        have hf2 := findN_more (M := M) hf
        by_cases h3 : x.k = 3
        · rw [go_link _ _ _ _ hd hf h3] at h
          rw [go_link _ _ _ _ hd hf2 h3]
          exact hk _ _ _ h
        · by_cases h1 : x.k = 1 ∧ r ≠ []
          · rw [go_file _ _ _ hd hf h1.1 h1.2] at h
            cases h
          · have hr : x.k = 1 → r = [] := fun e => by
              by_cases e2 : r = []
              · exact e2
              · exact absurd ⟨e, e2⟩ h1
            rw [go_on _ _ _ hd hf h3 hr] at h
            rw [go_on _ _ _ hd hf2 h3 hr]
            exact ih h
theorem walk_mono {L M : List Nd} (h : Nat) : ∀ (a N b : List Nm), walkV L h a N = .inr b → walkV (L ++ M) h a N = .inr b := by
  induction h with
  | zero => exact fun a N b he => go_mono (fun _ _ _ e => by cases e) he
  | succ h ih => exact fun a N b he => go_mono ih he
theorem go_less {L : List Nd} {k k' : List Nm → List Nm → Sum Int (List Nm)} (hk : ∀ a N b, k a N = .inr b → k' a N = .inr b ∨ k' a N = .inl 19) {N : List Nm} : ∀ {a b : List Nm}, goV L k a N = .inr b → goV L k' a N = .inr b ∨ goV L k' a N = .inl 19 := by
  induction N with
  | nil => intro a b h; exact .inl h
  | cons n r ih =>
    intro a b h
    by_cases hd : n = [46, 46]
    · rw [go_dots _ _ _ _ hd] at h ⊢
      exact ih h
    · cases hf : findN L (joinP (a ++ [n])) with
      | none => rw [go_none _ _ _ _ hd hf] at h; cases h
      | some x =>
        by_cases h3 : x.k = 3
        · rw [go_link _ _ _ _ hd hf h3] at h ⊢
          exact hk _ _ _ h
        · by_cases h1 : x.k = 1 ∧ r ≠ []
          · rw [go_file _ _ _ hd hf h1.1 h1.2] at h
            cases h
          · have hr : x.k = 1 → r = [] := fun e => by
              by_cases e2 : r = []
              · exact e2
              · exact absurd ⟨e, e2⟩ h1
            rw [go_on _ _ _ hd hf h3 hr] at h ⊢
            exact ih h
theorem walk_less {L : List Nd} (h : Nat) : ∀ (a N b : List Nm), walkV L (h + 1) a N = .inr b → walkV L h a N = .inr b ∨ walkV L h a N = .inl 19 := by
  induction h with
  | zero => exact fun a N b he => go_less (fun _ _ _ _ => .inr rfl) he
  | succ h ih => exact fun a N b he => go_less ih he
def newP : Nm := [47, 110, 101, 119]
theorem link_res {L : List Nd} {p : Nm} (h : (resV L p).2.2 = 0) (hc : (chkN (L ++ [⟨newP, 3, p⟩])).1 = 0) : resV (L ++ [⟨newP, 3, p⟩]) newP = ([], 0, 19) ∨ resV (L ++ [⟨newP, 3, p⟩]) newP = resV L p := by
  obtain ⟨_, _, hr, b, hb, hw, he⟩ := res_ok h
  have hT := tr_of hc
  have hnew : findN (L ++ [⟨newP, 3, p⟩]) (joinP ([] ++ [[110, 101, 119]])) = some ⟨newP, 3, p⟩ := by
    have hl := hT.each L.length (by simp)
    have hx : (L ++ [(⟨newP, 3, p⟩ : Nd)])[L.length]'(by simp) = ⟨newP, 3, p⟩ := by simp
    rw [hx, List.take_left] at hl
    obtain ⟨_, _, _, hf, _⟩ := wrong_zero hl
    have hf2 : L.find? (fun x => x.p == newP) = none := hf
    show (if newP = [47] then _ else _) = _
    rw [if_neg (by decide)]
    show (L ++ [(⟨newP, 3, p⟩ : Nd)]).find? (fun x => x.p == newP) = _
    rw [List.find?_append, hf2]
    rfl
  have e8 : walkV (L ++ [⟨newP, 3, p⟩]) 8 [] (namesP newP) = walkV (L ++ [⟨newP, 3, p⟩]) 7 [] (namesP p) := by
    have hn : namesP newP = [[110, 101, 119]] := by decide
    rw [hn]
    show goV (L ++ [⟨newP, 3, p⟩]) (walkV (L ++ [⟨newP, 3, p⟩]) 7) [] [[110, 101, 119]] = _
    rw [go_link _ _ _ _ (by decide) hnew rfl, List.append_nil]
    obtain ⟨_, ⟨r, rfl⟩, _⟩ := right_iff.1 hr
    rw [← parts_names hr]
    rfl
  have h7 := walk_less 7 [] (namesP p) b (walk_mono (M := [⟨newP, 3, p⟩]) 8 [] (namesP p) b hw)
  unfold resV
  rw [if_pos hc, if_pos (show rightP newP = true by decide), e8]
  rcases h7 with h7 | h7
  · right
    rw [h7]
    have := he
    unfold resV at this
    rw [this]
    show (joinP b, kindOf (L ++ [⟨newP, 3, p⟩]) b, (0 : Int)) = _
    obtain ⟨y, hy, hk, _⟩ := at_kind hb
    unfold kindOf
    rw [findN_more hy, hy]
  · left
    rw [h7]
    rfl

/-! links in a row -/
def nameM (i : Nat) : Nm := [47, UInt8.ofNat (97 + i)]
def ringN (m : Nat) (ring : Bool) (i : Nat) : Nd := ⟨nameM i, 3, if (ring && i == m - 1) = true then nameM 0 else nameM (i + 1)⟩
def ringL (m : Nat) (ring : Bool) (i : Nat) : List Nd := (List.range i).map (ringN m ring)
def ringA (m : Nat) (ring : Bool) : List Nd := if ring = true then ringL m ring m else ringL m ring m ++ [⟨nameM m, 1, []⟩]
theorem ringL_more (m : Nat) (ring : Bool) (i : Nat) : ringL m ring (i + 1) = ringL m ring i ++ [ringN m ring i] := by
  unfold ringL
  rw [List.range_succ, List.map_append]
  rfl
def ringR (m : Nat) (ring : Bool) : Nm × Int × Int := if (ring || decide (8 < m)) = true then ([], 0, 19) else (nameM m, 1, 0)
theorem ring_table : ((List.range 21).all fun m => decide (m = 0) || (decide (resV (ringA m true) [47, 97] = ringR m true) && decide (resV (ringA m false) [47, 97] = ringR m false))) = true := by kernel_rfl
theorem ring_res {m : Nat} (h1 : 1 ≤ m) (h2 : m ≤ 20) (ring : Bool) : resV (ringA m ring) [47, 97] = ringR m ring := by
  have h := List.all_eq_true.1 ring_table m (List.mem_range.2 (by omega))
  rw [Bool.or_eq_true, Bool.and_eq_true, decide_eq_true_eq, decide_eq_true_eq, decide_eq_true_eq] at h
  rcases h with h | ⟨ha, hb⟩
  · omega
  · cases ring
    · exact hb
    · exact ha

end Go.Proofs.YtilemgpopjlchaaDoor
