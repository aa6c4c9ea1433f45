/-
  Frames among bytes, as plain lists: what stands at the front, what might, what Next finds; whatever is found in all does not hang on the pieces.
-/
import Derived.WalkKit
namespace Go.Proofs.Ytfjipaalelkpjaa

/-- a length by two bytes, a number by four, the highest first. -/
def two (n : Nat) : List Int := [(n : Int) / 256, (n : Int) % 256]
def four (s : Int) : List Int := [s / 16777216, s / 65536 % 256, s / 256 % 256, s % 256]
/-- the frame of a body; sm: the sum of bytes. -/
def frm (sm : List Int → Int) (b : List Int) : List Int := [102, 76] ++ (two b.length ++ (four (sm (two b.length ++ b)) ++ b))
theorem frm_len (sm : List Int → Int) (b : List Int) : (frm sm b).length = b.length + 8 := by simp [frm, two, four]
/-- the length that is told at the front. -/
def told (l : List Int) : Nat := (l.getD 2 0 * 256 + l.getD 3 0).toNat
def body (l : List Int) : List Int := (l.drop 8).take (told l)
/-- a frame stands at the front. -/
def Std (sm : List Int → Int) (l : List Int) : Prop := 1 ≤ told l ∧ told l ≤ 512 ∧ told l + 8 ≤ l.length ∧ l.take (told l + 8) = frm sm (body l)
/-- one might stand there, if none does. -/
def Mgt (l : List Int) : Prop := (0 < l.length → l.getD 0 0 = 102) ∧ (1 < l.length → l.getD 1 0 = 76) ∧ (2 < l.length → l.getD 2 0 ≤ 2) ∧ (4 ≤ l.length → 1 ≤ told l ∧ told l ≤ 512 ∧ l.length < told l + 8)
theorem getD_app {l m : List Int} {i : Nat} (h : i < l.length) : (l ++ m).getD i 0 = l.getD i 0 := by
  rw [List.getD_eq_getElem?_getD, List.getElem?_append_left h, ← List.getD_eq_getElem?_getD]
theorem told_app {l m : List Int} (h : 4 ≤ l.length) : told (l ++ m) = told l := by
  unfold told
  rw [getD_app (by omega), getD_app (by omega)]
theorem body_app {l m : List Int} (h : 4 ≤ l.length) (h2 : told l + 8 ≤ l.length) : body (l ++ m) = body l := by
  unfold body
  rw [told_app h, List.drop_append_of_le_length (by omega), List.take_append_of_le_length (by rw [List.length_drop]; omega)]
theorem body_len {sm : List Int → Int} {l : List Int} (h : Std sm l) : (body l).length = told l := by
  unfold body
  rw [List.length_take, List.length_drop]
  have := h.2.2.1
  omega
/-- what stands, stands whatever comes behind. -/
theorem std_app {sm : List Int → Int} {l : List Int} (m : List Int) (h : Std sm l) : Std sm (l ++ m) ∧ body (l ++ m) = body l ∧ told (l ++ m) = told l := by
  obtain ⟨h1, h2, h3, h4⟩ := h
  have e1 : told (l ++ m) = told l := told_app (by omega)
  have e2 : body (l ++ m) = body l := body_app (by omega) h3
  refine ⟨⟨by rw [e1]; exact h1, by rw [e1]; exact h2, by rw [e1, List.length_append]; omega, ?_⟩, e2, e1⟩
  rw [e1, e2, List.take_append_of_le_length h3]
  exact h4
/-- a frame's first bytes. -/
theorem std_head {sm : List Int → Int} {l : List Int} (h : Std sm l) : l.getD 0 0 = 102 ∧ l.getD 1 0 = 76 ∧ l.getD 2 0 ≤ 2 := by
  have hb := body_len h
  obtain ⟨h1, h2, h3, h4⟩ := h
  have key : ∀ i, i < told l + 8 → l.getD i 0 = (frm sm (body l)).getD i 0 := fun i hi => by
    rw [← h4, List.getD_eq_getElem?_getD, List.getD_eq_getElem?_getD, List.getElem?_take_of_lt hi]
  have k0 := key 0 (by omega)
  have k1 := key 1 (by omega)
  have k2 := key 2 (by omega)
  refine ⟨k0, k1, ?_⟩
  rw [k2]
  show ((body l).length : Int) / 256 ≤ 2
  rw [hb]
  omega
/-- where none stands and none might, so it is whatever comes behind. -/
theorem not_app {sm : List Int → Int} {l : List Int} (m : List Int) (h0 : 0 < l.length) (h1 : ¬ Std sm l) (h2 : ¬ Mgt l) : ¬ Std sm (l ++ m) ∧ ¬ Mgt (l ++ m) := by
  have hlm : (l ++ m).length = l.length + m.length := List.length_append
  constructor
  · intro h
    obtain ⟨a0, a1, a2⟩ := std_head h
    apply h2
    refine ⟨fun hl => by rw [← getD_app (m := m) hl]; exact a0, fun hl => by rw [← getD_app (m := m) hl]; exact a1, fun hl => by rw [← getD_app (m := m) hl]; exact a2, fun hl => ?_⟩
    have e1 : told (l ++ m) = told l := told_app hl
    obtain ⟨b1, b2, b3, b4⟩ := h
    rw [e1] at b1 b2 b3 b4
    refine ⟨b1, b2, Nat.lt_of_not_le fun hle => h1 ?_⟩
    refine ⟨b1, b2, hle, ?_⟩
    rw [body_app hl hle, List.take_append_of_le_length hle] at b4
    exact b4
  · rintro ⟨a0, a1, a2, a3⟩
    apply h2
    refine ⟨fun hl => by rw [← getD_app (m := m) hl]; exact a0 (by omega), fun hl => by rw [← getD_app (m := m) hl]; exact a1 (by omega), fun hl => by rw [← getD_app (m := m) hl]; exact a2 (by omega), fun hl => ?_⟩
    have e1 : told (l ++ m) = told l := told_app hl
    obtain ⟨b1, b2, b3⟩ := a3 (by omega)
    rw [e1] at b1 b2 b3
    exact ⟨b1, b2, by omega⟩

def stdB (sm : List Int → Int) (l : List Int) : Bool := decide (1 ≤ told l ∧ told l ≤ 512 ∧ told l + 8 ≤ l.length ∧ l.take (told l + 8) = frm sm (body l))
def mgtB (l : List Int) : Bool := decide ((0 < l.length → l.getD 0 0 = 102) ∧ (1 < l.length → l.getD 1 0 = 76) ∧ (2 < l.length → l.getD 2 0 ≤ 2) ∧ (4 ≤ l.length → 1 ≤ told l ∧ told l ≤ 512 ∧ l.length < told l + 8))
theorem stdB_iff {sm : List Int → Int} {l : List Int} : stdB sm l = true ↔ Std sm l := decide_eq_true_iff
theorem mgtB_iff {l : List Int} : mgtB l = true ↔ Mgt l := decide_eq_true_iff
/-- what Next tells of the bytes that wait: how many are lost, what is found, what waits then. -/
def nxt (sm : List Int → Int) : List Int → Nat × Option (List Int) × List Int
  | [] => (0, none, [])
  | x :: r => if stdB sm (x :: r) = true then (0, some (body (x :: r)), (x :: r).drop (told (x :: r) + 8)) else if mgtB (x :: r) = true then (0, none, x :: r) else ((nxt sm r).1 + 1, (nxt sm r).2)
theorem nxt_std {sm : List Int → Int} {l : List Int} (h : Std sm l) : nxt sm l = (0, some (body l), l.drop (told l + 8)) := by
  cases l with
  | nil => exact absurd h.2.2.1 (by simp)
  | cons x r => unfold nxt; rw [if_pos (stdB_iff.2 h)]
theorem nxt_mgt {sm : List Int → Int} {x : Int} {r : List Int} (h1 : ¬ Std sm (x :: r)) (h2 : Mgt (x :: r)) : nxt sm (x :: r) = (0, none, x :: r) := by
  unfold nxt
  rw [if_neg (fun h => h1 (stdB_iff.1 h)), if_pos (mgtB_iff.2 h2)]
theorem nxt_lose {sm : List Int → Int} {x : Int} {r : List Int} (h1 : ¬ Std sm (x :: r)) (h2 : ¬ Mgt (x :: r)) : nxt sm (x :: r) = ((nxt sm r).1 + 1, (nxt sm r).2) := by
  rw [nxt, if_neg (fun h => h1 (stdB_iff.1 h)), if_neg (fun h => h2 (mgtB_iff.1 h))]
/-- how many bytes what is found took. -/
def cst : Option (List Int) → Nat
  | some b => b.length + 8
  | none => 0
/-- bytes are found in frames, lost, or left. -/
theorem nxt_count (sm : List Int → Int) (l : List Int) : l.length = (nxt sm l).1 + cst (nxt sm l).2.1 + (nxt sm l).2.2.length := by
  induction l with
  | nil => rfl
  | cons x r ih =>
    by_cases h1 : Std sm (x :: r)
    · rw [nxt_std h1]
      have := body_len h1
      have h3 := h1.2.2.1
      simp only [List.length_drop, cst]
      omega
    · by_cases h2 : Mgt (x :: r)
      · rw [nxt_mgt h1 h2]
        simp [cst]
      · rw [nxt_lose h1 h2, List.length_cons]
        dsimp only
        omega
/-- what is found is found, whatever comes behind. -/
theorem nxt_some {sm : List Int → Int} {l b r : List Int} {k : Nat} (m : List Int) (h : nxt sm l = (k, some b, r)) : nxt sm (l ++ m) = (k, some b, r ++ m) := by
  induction l generalizing k with
  | nil => cases h
  | cons x t ih =>
    by_cases h1 : Std sm (x :: t)
    · rw [nxt_std h1] at h
      cases h
      obtain ⟨q1, q2, q3⟩ := std_app m h1
      rw [nxt_std q1, q2, q3, List.drop_append_of_le_length h1.2.2.1]
    · by_cases h2 : Mgt (x :: t)
      · rw [nxt_mgt h1 h2] at h
        cases h
      · rw [nxt_lose h1 h2] at h
        obtain ⟨n1, n2⟩ := not_app m (by simp) h1 h2
        have e : nxt sm t = ((nxt sm t).1, some b, r) := by
          cases hq : nxt sm t with
          | mk a c => rw [hq] at h; cases h; rfl
        have := ih e
        rw [List.cons_append] at n1 n2 ⊢
        rw [nxt_lose n1 n2, this]
        have hk : (nxt sm t).1 + 1 = k := congrArg Prod.fst h
        rw [hk]
/-- where nothing is found: what waits is the end, and goes on as if it had come with what comes behind. -/
theorem nxt_none {sm : List Int → Int} {l r : List Int} {k : Nat} (m : List Int) (h : nxt sm l = (k, none, r)) : nxt sm (l ++ m) = ((nxt sm (r ++ m)).1 + k, (nxt sm (r ++ m)).2) := by
  induction l generalizing k with
  | nil => cases h; rfl
  | cons x t ih =>
    by_cases h1 : Std sm (x :: t)
    · rw [nxt_std h1] at h
      cases h
    · by_cases h2 : Mgt (x :: t)
      · rw [nxt_mgt h1 h2] at h
        cases h
        rfl
      · rw [nxt_lose h1 h2] at h
        obtain ⟨n1, n2⟩ := not_app m (by simp) h1 h2
        have e : nxt sm t = ((nxt sm t).1, none, r) := by
          cases hq : nxt sm t with
          | mk a c => rw [hq] at h; cases h; rfl
        have hk : (nxt sm t).1 + 1 = k := congrArg Prod.fst h
        have := ih e
        rw [List.cons_append] at n1 n2 ⊢
        rw [nxt_lose n1 n2, this]
        dsimp only
        rw [← hk, Nat.add_assoc]
/-- all that is found: bodies, how many bytes are lost, what waits; so many times at most. -/
def drn (sm : List Int → Int) : Nat → List Int → List (List Int) × Nat × List Int
  | 0, l => ([], 0, l)
  | n + 1, l => match nxt sm l with
    | (k, some b, r) => (b :: (drn sm n r).1, (drn sm n r).2.1 + k, (drn sm n r).2.2)
    | (k, none, r) => ([], k, r)
theorem drn_some {sm : List Int → Int} {n k : Nat} {l b r : List Int} (h : nxt sm l = (k, some b, r)) : drn sm (n + 1) l = (b :: (drn sm n r).1, (drn sm n r).2.1 + k, (drn sm n r).2.2) := by
  rw [drn, h]
theorem drn_none {sm : List Int → Int} {n k : Nat} {l r : List Int} (h : nxt sm l = (k, none, r)) : drn sm (n + 1) l = ([], k, r) := by
  rw [drn, h]
theorem nxt_less {sm : List Int → Int} {k : Nat} {l b r : List Int} (h : nxt sm l = (k, some b, r)) : r.length + 8 ≤ l.length := by
  have := nxt_count sm l
  rw [h] at this
  simp only [cst] at this
  omega
/-- more times than there are bytes make no odds. -/
theorem drn_more (sm : List Int → Int) : ∀ (n m : Nat) (l : List Int), l.length < n → l.length < m → drn sm n l = drn sm m l := by
  intro n
  induction n with
  | zero => intro m l h; omega
  | succ n ih =>
    intro m l h1 h2
    obtain ⟨m, rfl⟩ : ∃ q, m = q + 1 := ⟨m - 1, by omega⟩
    rcases hq : nxt sm l with ⟨k, _ | b, r⟩
    · rw [drn_none hq, drn_none hq]
    · have := nxt_less hq
      rw [drn_some hq, drn_some hq, ih m r (by omega) (by omega)]
/-- all that is found of bytes. -/
def all (sm : List Int → Int) (l : List Int) : List (List Int) × Nat × List Int := drn sm (l.length + 1) l
theorem drn_all {sm : List Int → Int} {n : Nat} {l : List Int} (h : l.length < n) : drn sm n l = all sm l := drn_more sm _ _ l h (by omega)
theorem all_some {sm : List Int → Int} {k : Nat} {l b r : List Int} (h : nxt sm l = (k, some b, r)) : all sm l = (b :: (all sm r).1, (all sm r).2.1 + k, (all sm r).2.2) := by
  have := nxt_less h
  unfold all
  rw [drn_some h, drn_all (n := l.length) (by omega)]
  rfl
theorem all_none {sm : List Int → Int} {k : Nat} {l r : List Int} (h : nxt sm l = (k, none, r)) : all sm l = ([], k, r) := drn_none h
/-- bytes that come behind what was gone through already: the same is found in all (P16.3). -/
theorem all_app (sm : List Int → Int) (m : List Int) : ∀ (n : Nat) (l : List Int), l.length ≤ n → all sm (l ++ m) = ((all sm l).1 ++ (all sm ((all sm l).2.2 ++ m)).1, (all sm l).2.1 + (all sm ((all sm l).2.2 ++ m)).2.1, (all sm ((all sm l).2.2 ++ m)).2.2) := by
  intro n
  induction n with
  | zero =>
    intro l hl
    obtain rfl := List.eq_nil_of_length_eq_zero (Nat.le_zero.1 hl)
    have e : all sm [] = ([], 0, []) := rfl
    rw [e]
    simp
  | succ n ih =>
    intro l hl
    rcases hq : nxt sm l with ⟨k, _ | b, r⟩
    · rw [all_none hq]
      have e := nxt_none m hq
      dsimp only
      rcases hp : nxt sm (r ++ m) with ⟨k2, _ | b2, r2⟩
      · rw [hp] at e
        rw [all_none hp, all_none e]
        simp [Nat.add_comm]
      · rw [hp] at e
        rw [all_some hp, all_some e]
        simp only [List.nil_append, Prod.mk.injEq, true_and, and_true]
        omega
    · have hlt := nxt_less hq
      rw [all_some hq, all_some (nxt_some m hq), ih r (by omega)]
      simp only [List.cons_append, Prod.mk.injEq, true_and, and_true]
      omega
/-- a frame is found as it was, and what comes behind it waits. -/
theorem frm_std {sm : List Int → Int} {b : List Int} (m : List Int) (h1 : 1 ≤ b.length) (h2 : b.length ≤ 512) : Std sm (frm sm b ++ m) ∧ body (frm sm b ++ m) = b ∧ told (frm sm b ++ m) = b.length := by
  have e1 : told (frm sm b ++ m) = b.length := by
    show ((b.length : Int) / 256 * 256 + (b.length : Int) % 256).toNat = b.length
    omega
  have e2 : body (frm sm b ++ m) = b := by
    unfold body
    rw [e1]
    show (b ++ m).take b.length = b
    exact List.take_left
  refine ⟨⟨by rw [e1]; exact h1, by rw [e1]; exact h2, by rw [e1, List.length_append, frm_len]; omega, ?_⟩, e2, e1⟩
  rw [e1, e2, ← frm_len sm b]
  exact List.take_left
theorem frm_nxt {sm : List Int → Int} {b : List Int} (m : List Int) (h1 : 1 ≤ b.length) (h2 : b.length ≤ 512) : nxt sm (frm sm b ++ m) = (0, some b, m) := by
  obtain ⟨q1, q2, q3⟩ := frm_std (sm := sm) m h1 h2
  rw [nxt_std q1, q2, q3, ← frm_len sm b, List.drop_left]
/-- frames one behind the other are found, all of them, in order, and nothing is lost (P16.3). -/
theorem all_frames (sm : List Int → Int) : ∀ (bs : List (List Int)), (∀ b ∈ bs, 1 ≤ b.length ∧ b.length ≤ 512) → all sm (bs.flatMap (frm sm)) = (bs, 0, []) := by
  intro bs
  induction bs with
  | nil => intro _; rfl
  | cons b bs ih =>
    intro h
    obtain ⟨h1, h2⟩ := h b (List.mem_cons_self ..)
    rw [List.flatMap_cons, all_some (frm_nxt _ h1 h2), ih fun c hc => h c (List.mem_cons_of_mem _ hc)]
/-- bytes that were handed in are found in frames, lost, or left. -/
theorem all_count (sm : List Int → Int) : ∀ (n : Nat) (l : List Int), l.length ≤ n → l.length = (((all sm l).1.map fun b => b.length + 8).sum) + (all sm l).2.1 + (all sm l).2.2.length := by
  intro n
  induction n with
  | zero =>
    intro l hl
    obtain rfl := List.eq_nil_of_length_eq_zero (Nat.le_zero.1 hl)
    rfl
  | succ n ih =>
    intro l hl
    have hc := nxt_count sm l
    rcases hq : nxt sm l with ⟨k, _ | b, r⟩
    · rw [hq] at hc
      rw [all_none hq]
      simp only [cst] at hc
      simp
      omega
    · have hlt := nxt_less hq
      have := ih r (by omega)
      rw [hq] at hc
      rw [all_some hq]
      simp only [cst] at hc
      simp only [List.map_cons, List.sum_cons]
      omega
/-- nothing that is found is longer than what is there. -/
theorem all_short (sm : List Int → Int) : ∀ (n : Nat) (l : List Int), l.length ≤ n → ∀ b ∈ (all sm l).1, b.length + 8 ≤ l.length := by
  intro n
  induction n with
  | zero =>
    intro l hl b hb
    obtain rfl := List.eq_nil_of_length_eq_zero (Nat.le_zero.1 hl)
    cases hb
  | succ n ih =>
    intro l hl b hb
    have hc := nxt_count sm l
    rcases hq : nxt sm l with ⟨k, _ | c, r⟩
    · rw [all_none hq] at hb
      cases hb
    · have hlt := nxt_less hq
      rw [hq] at hc
      rw [all_some hq] at hb
      simp only [cst] at hc
      dsimp only at hb
      rcases List.mem_cons.1 hb with rfl | hb
      · omega
      · have := ih r (by omega) b hb
        omega
theorem nxt_zero {sm : List Int → Int} {l b r : List Int} (h : nxt sm l = (0, some b, r)) : Std sm l ∧ b = body l := by
  cases l with
  | nil => cases h
  | cons x t =>
    by_cases h1 : Std sm (x :: t)
    · rw [nxt_std h1] at h
      cases h
      exact ⟨h1, rfl⟩
    · by_cases h2 : Mgt (x :: t)
      · rw [nxt_mgt h1 h2] at h
        cases h
      · rw [nxt_lose h1 h2] at h
        have : (nxt sm t).1 + 1 = 0 := congrArg Prod.fst h
        omega
/-- bytes as many as a frame's, but not that frame: its body is not found (P16.3). -/
theorem all_turned {sm : List Int → Int} {l b : List Int} (hl : l.length = b.length + 8) (hne : l ≠ frm sm b) : b ∉ (all sm l).1 := by
  intro hb
  have hc := nxt_count sm l
  rcases hq : nxt sm l with ⟨k, _ | c, r⟩
  · rw [all_none hq] at hb
    cases hb
  · rw [hq] at hc
    simp only [cst] at hc
    rw [all_some hq] at hb
    dsimp only at hb
    rcases List.mem_cons.1 hb with rfl | hb
    · obtain rfl : k = 0 := by omega
      obtain ⟨h1, h2⟩ := nxt_zero hq
      have h3 := body_len h1
      rw [← h2] at h3
      have h4 := h1.2.2.2
      rw [← h2, ← h3, List.take_of_length_le (by omega)] at h4
      exact hne h4
    · have := all_short sm r.length r (Nat.le_refl _) b hb
      omega

end Go.Proofs.Ytfjipaalelkpjaa
