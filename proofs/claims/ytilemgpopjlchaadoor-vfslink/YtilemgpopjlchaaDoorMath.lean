/-
  Paths in plain words: bytes, names, what is left of them.
-/
import Derived.WalkKit
namespace Go.Proofs.YtilemgpopjlchaaDoor

/-- bytes as a text, and a text's bytes. -/
def bar (l : List UInt8) : ByteArray := ⟨l.toArray⟩
def lst (s : ByteArray) : List UInt8 := s.data.toList
theorem bar_lst (s : ByteArray) : bar (lst s) = s := by cases s; simp [bar, lst]
theorem lst_bar (l : List UInt8) : lst (bar l) = l := by simp [bar, lst]
theorem lst_length (s : ByteArray) : (lst s).length = s.size := Array.length_toList
theorem bar_size (l : List UInt8) : (bar l).size = l.length := by rw [← lst_length, lst_bar]
theorem extract_bar (s : ByteArray) (a b : Nat) : s.extract a b = bar (((lst s).drop a).take (b - a)) := by
  conv => lhs; rw [← bar_lst s]
  exact ByteArray.extract_mk _ _ _
theorem lst_extract (s : ByteArray) (a b : Nat) : lst (s.extract a b) = ((lst s).drop a).take (b - a) := by rw [extract_bar, lst_bar]
theorem lst_at (s : ByteArray) (i : Nat) (h : i < s.size) : (lst s)[i]? = some (s[i]'h) := by
  unfold lst
  rw [Array.getElem?_toList, Array.getElem?_eq_getElem (by exact h)]
  rfl
theorem bar_inj {l m : List UInt8} (h : bar l = bar m) : l = m := by rw [← lst_bar l, h, lst_bar]
theorem lst_inj {s t : ByteArray} (h : lst s = lst t) : s = t := by rw [← bar_lst s, h, bar_lst]
theorem lst_app (s t : ByteArray) : lst (s ++ t) = lst s ++ lst t := by simp [lst]
theorem bar_app (l m : List UInt8) : bar l ++ bar m = bar (l ++ m) := by apply lst_inj; rw [lst_app, lst_bar, lst_bar, lst_bar]
theorem drop_cons (s : ByteArray) (pos : Nat) (h : pos < s.size) : (lst s).drop pos = s[pos]'h :: (lst s).drop (pos + 1) := by
  have h2 : pos < (lst s).length := by rw [lst_length]; exact h
  rw [List.drop_eq_getElem_cons h2]
  have h3 := lst_at s pos h
  rw [List.getElem?_eq_getElem h2] at h3
  rw [Option.some.inj h3]

/-- which paths may be. -/
def rightP (l : List UInt8) : Bool := match l with
  | [] => false
  | c :: _ => decide (l.length ≤ 256) && c == 47 && l.all (· != 0)
theorem right_iff {l : List UInt8} : rightP l = true ↔ l.length ≤ 256 ∧ (∃ r, l = 47 :: r) ∧ ∀ c ∈ l, c ≠ 0 := by
  cases l with
  | nil => exact ⟨fun h => (by cases h), fun ⟨_, ⟨_, h⟩, _⟩ => (by cases h)⟩
  | cons c r =>
    unfold rightP
    simp only [Bool.and_eq_true, decide_eq_true_eq, List.all_eq_true, bne_iff_ne, beq_iff_eq]
    constructor
    · rintro ⟨⟨h1, h2⟩, h3⟩
      exact ⟨h1, ⟨r, by rw [h2]⟩, h3⟩
    · rintro ⟨h1, ⟨r', h2⟩, h3⟩
      cases h2
      exact ⟨⟨h1, rfl⟩, h3⟩

/-- what stands between the slashes; cur is what stands ahead of the first one. -/
def segA (cur : List UInt8) : List UInt8 → List (List UInt8)
  | [] => [cur]
  | c :: l => if c = 47 then cur :: segA [] l else segA (cur ++ [c]) l
def goodN (n : List UInt8) : Bool := !n.isEmpty && n != [46]
def namesA (cur l : List UInt8) : List (List UInt8) := (segA cur l).filter goodN
def namesP (l : List UInt8) : List (List UInt8) := if rightP l = true then namesA [] (l.drop 1) else []
/-- names one behind the other. -/
def joinF (L : List (List UInt8)) : List UInt8 := L.flatMap fun n => 47 :: n
def joinP (L : List (List UInt8)) : List UInt8 := if L = [] then [47] else joinF L
def stepL (out : List (List UInt8)) (n : List UInt8) : List (List UInt8) := if n = [46, 46] then out.dropLast else out ++ [n]
def leftL (L : List (List UInt8)) : List (List UInt8) := L.foldl stepL []
def leftP (l : List UInt8) : List (List UInt8) := leftL (namesP l)
def cleanP (l : List UInt8) : List UInt8 := if rightP l = true then joinP (leftP l) else []
def upP (l : List UInt8) : List UInt8 := if rightP l = true then joinP (leftP l).dropLast else []
def errP (l : List UInt8) : Int := if rightP l = true then 0 else 1
def withinP (s d : List UInt8) : Bool := rightP s && rightP d && (leftP d).isPrefixOf (leftP s)

theorem segA_sl (cur l : List UInt8) : segA cur (47 :: l) = cur :: segA [] l := by
  show (if (47 : UInt8) = 47 then _ else _) = _
  rw [if_pos rfl]
theorem segA_no (cur l : List UInt8) {c : UInt8} (h : c ≠ 47) : segA cur (c :: l) = segA (cur ++ [c]) l := by
  show (if c = 47 then _ else _) = _
  rw [if_neg h]
theorem segA_app (cur a b : List UInt8) : segA cur (a ++ 47 :: b) = segA cur a ++ segA [] b := by
  induction a generalizing cur with
  | nil => exact segA_sl cur b
  | cons c a ih =>
    by_cases h : c = 47
    · subst h
      rw [List.cons_append, segA_sl, segA_sl, ih, List.cons_append]
    · rw [List.cons_append, segA_no _ _ h, segA_no _ _ h, ih]
theorem segA_free (cur n r : List UInt8) (h : (47 : UInt8) ∉ n) : segA cur (n ++ r) = segA (cur ++ n) r := by
  induction n generalizing cur with
  | nil => rw [List.nil_append, List.append_nil]
  | cons c n ih =>
    have h1 : c ≠ 47 := fun e => h (by rw [e]; exact List.mem_cons_self ..)
    rw [List.cons_append, segA_no _ _ h1, ih _ (fun m => h (List.mem_cons_of_mem _ m)), List.append_assoc]
    rfl
theorem segA_one (cur n : List UInt8) (h : (47 : UInt8) ∉ n) : segA cur n = [cur ++ n] := by
  have := segA_free cur n [] h
  rw [List.append_nil] at this
  exact this
theorem segA_joinF {L : List (List UInt8)} (h : ∀ n ∈ L, (47 : UInt8) ∉ n) (cur : List UInt8) : segA cur (joinF L) = cur :: L := by
  induction L generalizing cur with
  | nil => rfl
  | cons n L ih =>
    have e : joinF (n :: L) = 47 :: (n ++ joinF L) := rfl
    rw [e, segA_sl, segA_free _ _ _ (h n (List.mem_cons_self ..)), List.nil_append, ih (fun m hm => h m (List.mem_cons_of_mem _ hm))]
theorem segA_mem {cur l n : List UInt8} (h : n ∈ segA cur l) : ∀ c ∈ n, c ∈ cur ∨ c ∈ l := by
  induction l generalizing cur with
  | nil =>
    intro c hc
    rw [List.mem_singleton.1 h] at hc
    exact .inl hc
  | cons d l ih =>
    by_cases hd : d = 47
    · subst hd
      rw [segA_sl] at h
      rcases List.mem_cons.1 h with rfl | h
      · exact fun c hc => .inl hc
      · intro c hc
        rcases ih h c hc with hm | hm
        · cases hm
        · exact .inr (List.mem_cons_of_mem _ hm)
    · rw [segA_no _ _ hd] at h
      intro c hc
      rcases ih h c hc with hm | hm
      · rcases List.mem_append.1 hm with hm | hm
        · exact .inl hm
        · rw [List.mem_singleton.1 hm]
          exact .inr (List.mem_cons_self ..)
      · exact .inr (List.mem_cons_of_mem _ hm)
theorem segA_slash {cur l n : List UInt8} (hc : (47 : UInt8) ∉ cur) (h : n ∈ segA cur l) : (47 : UInt8) ∉ n := by
  induction l generalizing cur with
  | nil =>
    rw [List.mem_singleton.1 h]
    exact hc
  | cons d l ih =>
    by_cases hd : d = 47
    · subst hd
      rw [segA_sl] at h
      rcases List.mem_cons.1 h with rfl | h
      · exact hc
      · exact ih (by simp) h
    · rw [segA_no _ _ hd] at h
      exact ih (by
        intro hm
        rcases List.mem_append.1 hm with hm | hm
        · exact hc hm
        · exact hd (List.mem_singleton.1 hm).symm) h
theorem joinF_app (L M : List (List UInt8)) : joinF (L ++ M) = joinF L ++ joinF M := by unfold joinF; rw [List.flatMap_append]
theorem segA_len (cur l : List UInt8) : (joinF (segA cur l)).length = cur.length + l.length + 1 := by
  induction l generalizing cur with
  | nil => simp [segA, joinF]
  | cons d l ih =>
    by_cases hd : d = 47
    · subst hd
      rw [segA_sl]
      have e : joinF (cur :: segA [] l) = (47 :: cur) ++ joinF (segA [] l) := rfl
      rw [e, List.length_append, ih]
      simp
      omega
    · rw [segA_no _ _ hd, ih]
      simp
      omega
theorem joinF_cons (n : List UInt8) (L : List (List UInt8)) : (joinF (n :: L)).length = n.length + 1 + (joinF L).length := by
  show ((47 :: n) ++ joinF L).length = _
  rw [List.length_append, List.length_cons]
theorem mem_dropLast {α : Type} {a : α} {l : List α} (h : a ∈ l.dropLast) : a ∈ l := List.mem_of_mem_take (by rw [List.dropLast_eq_take] at h; exact h)
theorem joinF_filter (p : List UInt8 → Bool) (L : List (List UInt8)) : (joinF (L.filter p)).length ≤ (joinF L).length := by
  induction L with
  | nil => exact Nat.le_refl _
  | cons n L ih =>
    have e := joinF_cons n L
    rw [List.filter_cons]
    split
    · have e2 := joinF_cons n (L.filter p)
      omega
    · omega

/-- a name that may stand in a path. -/
structure OkN (n : List UInt8) : Prop where
  sl : (47 : UInt8) ∉ n
  nu : (0 : UInt8) ∉ n
  good : goodN n = true
theorem names_ok {l : List UInt8} : ∀ n ∈ namesP l, OkN n := by
  intro n hn
  unfold namesP at hn
  split at hn
  · rename_i hr
    obtain ⟨_, ⟨r, rfl⟩, h0⟩ := right_iff.1 hr
    obtain ⟨h1, h2⟩ := List.mem_filter.1 hn
    refine ⟨segA_slash (by simp) h1, fun hm => ?_, h2⟩
    rcases segA_mem h1 0 hm with hm | hm
    · cases hm
    · exact h0 0 (List.mem_of_mem_drop hm) rfl
  · cases hn
theorem names_len (l : List UInt8) : (joinF (namesP l)).length ≤ l.length := by
  unfold namesP
  split
  · rename_i hr
    obtain ⟨_, ⟨r, rfl⟩, _⟩ := right_iff.1 hr
    refine Nat.le_trans (joinF_filter _ _) ?_
    rw [segA_len]
    simp
  · exact Nat.zero_le _
theorem left_in {L out : List (List UInt8)} : ∀ n ∈ L.foldl stepL out, n ∈ out ∨ n ∈ L := by
  induction L generalizing out with
  | nil => exact fun n h => .inl h
  | cons x L ih =>
    intro n h
    rcases ih n h with h | h
    · unfold stepL at h
      split at h
      · exact .inl (mem_dropLast h)
      · rcases List.mem_append.1 h with h | h
        · exact .inl h
        · rw [List.mem_singleton.1 h]
          exact .inr (List.mem_cons_self ..)
    · exact .inr (List.mem_cons_of_mem _ h)
theorem left_dots {L out : List (List UInt8)} (ho : ∀ n ∈ out, n ≠ [46, 46]) : ∀ n ∈ L.foldl stepL out, n ≠ [46, 46] := by
  induction L generalizing out with
  | nil => exact ho
  | cons x L ih =>
    refine ih fun n hn => ?_
    unfold stepL at hn
    split at hn
    · exact ho n (mem_dropLast hn)
    · rename_i hx
      rcases List.mem_append.1 hn with h | h
      · exact ho n h
      · rw [List.mem_singleton.1 h]
        exact hx
theorem joinF_dropLast (L : List (List UInt8)) : (joinF L.dropLast).length ≤ (joinF L).length := by
  rcases List.eq_nil_or_concat L with rfl | ⟨M, n, rfl⟩
  · exact Nat.le_refl _
  · rw [List.concat_eq_append, List.dropLast_concat, joinF_app, List.length_append]
    omega
theorem left_size (L out : List (List UInt8)) : (joinF (L.foldl stepL out)).length ≤ (joinF out).length + (joinF L).length := by
  induction L generalizing out with
  | nil => simp [joinF]
  | cons x L ih =>
    have e := joinF_cons x L
    have h1 : (joinF (stepL out x)).length ≤ (joinF out).length + x.length + 1 := by
      unfold stepL
      split
      · have := joinF_dropLast out
        omega
      · rw [joinF_app, List.length_append, joinF_cons]
        show _ + (x.length + 1 + 0) ≤ _
        omega
    have h2 := ih (stepL out x)
    show (joinF (L.foldl stepL (stepL out x))).length ≤ _
    omega
/-- without .. all is left. -/
theorem left_self {L out : List (List UInt8)} (h : ∀ n ∈ L, n ≠ [46, 46]) : L.foldl stepL out = out ++ L := by
  induction L generalizing out with
  | nil => simp
  | cons x L ih =>
    show L.foldl stepL (stepL out x) = _
    rw [ih fun n hn => h n (List.mem_cons_of_mem _ hn)]
    unfold stepL
    rw [if_neg (h x (List.mem_cons_self ..)), List.append_assoc]
    rfl

/-- what a clean path is of. -/
structure Cl (L : List (List UInt8)) : Prop where
  ok : ∀ n ∈ L, OkN n
  dots : ∀ n ∈ L, n ≠ [46, 46]
  len : (joinF L).length ≤ 256
theorem Cl.drop {L : List (List UInt8)} (h : Cl L) : Cl L.dropLast :=
  ⟨fun n hn => h.ok n (mem_dropLast hn), fun n hn => h.dots n (mem_dropLast hn), Nat.le_trans (joinF_dropLast L) h.len⟩
theorem cl_left (l : List UInt8) : Cl (leftP l) := by
  refine ⟨fun n hn => ?_, left_dots (by simp), ?_⟩
  · rcases left_in n hn with h | h
    · cases h
    · exact names_ok n h
  · by_cases hr : rightP l = true
    · have h1 := left_size (namesP l) []
      have h2 := names_len l
      have h3 := (right_iff.1 hr).1
      have e0 : (joinF ([] : List (List UInt8))).length = 0 := rfl
      rw [e0] at h1
      show (joinF ((namesP l).foldl stepL [])).length ≤ _
      omega
    · unfold leftP leftL namesP
      rw [if_neg hr]
      exact Nat.zero_le _
theorem joinP_len (L : List (List UInt8)) : (joinP L).length ≤ max 1 (joinF L).length := by
  unfold joinP
  split
  · simp; omega
  · omega
theorem right_join {L : List (List UInt8)} (h : Cl L) : rightP (joinP L) = true := by
  refine right_iff.2 ⟨?_, ?_, ?_⟩
  · have := joinP_len L
    have := h.len
    omega
  · unfold joinP
    split
    · exact ⟨[], rfl⟩
    · cases L with
      | nil => exact absurd rfl (by assumption)
      | cons n L => exact ⟨n ++ joinF L, rfl⟩
  · unfold joinP
    split
    · intro c hc
      rw [List.mem_singleton.1 hc]
      decide
    · intro c hc e
      subst e
      obtain ⟨n, hn, hc⟩ := List.mem_flatMap.1 hc
      rcases List.mem_cons.1 hc with hc | hc
      · exact absurd hc (by decide)
      · exact (h.ok n hn).nu hc
theorem names_join {L : List (List UInt8)} (h : Cl L) : namesP (joinP L) = L := by
  unfold namesP
  rw [if_pos (right_join h)]
  unfold namesA joinP
  split
  · rename_i e
    rw [e]
    rfl
  · cases L with
    | nil => exact absurd rfl (by assumption)
    | cons n L =>
      have e : (joinF (n :: L)).drop 1 = n ++ joinF L := rfl
      have hs : ∀ m ∈ n :: L, (47 : UInt8) ∉ m := fun m hm => (h.ok m hm).sl
      rw [e, segA_free _ _ _ (hs n (List.mem_cons_self ..)), List.nil_append, segA_joinF (fun m hm => hs m (List.mem_cons_of_mem _ hm))]
      exact List.filter_eq_self.2 fun m hm => (h.ok m hm).good
theorem left_join {L : List (List UInt8)} (h : Cl L) : leftP (joinP L) = L := by
  unfold leftP leftL
  rw [names_join h, left_self h.dots]
  rfl
theorem clean_again {l : List UInt8} (hr : rightP l = true) : rightP (cleanP l) = true ∧ cleanP (cleanP l) = cleanP l ∧ (cleanP l).length ≤ l.length ∧ leftP (cleanP l) = leftP l := by
  have hc := cl_left l
  have e1 : cleanP l = joinP (leftP l) := if_pos hr
  have e2 := right_join hc
  rw [e1]
  refine ⟨e2, ?_, ?_, left_join hc⟩
  · unfold cleanP
    rw [if_pos e2, left_join hc]
  · have h1 := joinP_len (leftP l)
    have h2 : (joinF (leftP l)).length ≤ l.length := by
      have h3 := left_size (namesP l) []
      have h4 := names_len l
      have e0 : (joinF ([] : List (List UInt8))).length = 0 := rfl
      rw [e0] at h3
      show (joinF ((namesP l).foldl stepL [])).length ≤ _
      omega
    obtain ⟨_, ⟨r, rfl⟩, _⟩ := right_iff.1 hr
    simp at h2 ⊢
    omega
theorem up_again {l : List UInt8} (hr : rightP l = true) : rightP (upP l) = true ∧ leftP (upP l) = (leftP l).dropLast := by
  have e1 : upP l = joinP (leftP l).dropLast := if_pos hr
  rw [e1]
  exact ⟨right_join (cl_left l).drop, left_join (cl_left l).drop⟩

/-- one name more. -/
theorem names_more {s n : List UInt8} (hs : rightP s = true) (hl : (s ++ 47 :: n).length ≤ 256) (h0 : (0 : UInt8) ∉ n) : rightP (s ++ 47 :: n) = true ∧ namesP (s ++ 47 :: n) = namesP s ++ namesA [] n := by
  obtain ⟨_, ⟨r, rfl⟩, h2⟩ := right_iff.1 hs
  have hr : rightP (47 :: r ++ 47 :: n) = true := by
    refine right_iff.2 ⟨hl, ⟨r ++ 47 :: n, rfl⟩, fun c hc => ?_⟩
    rcases List.mem_append.1 hc with hc | hc
    · exact h2 c hc
    · rcases List.mem_cons.1 hc with rfl | hc
      · decide
      · exact fun e => h0 (e ▸ hc)
  refine ⟨hr, ?_⟩
  unfold namesP
  rw [if_pos hr, if_pos hs]
  unfold namesA
  have e : (47 :: r ++ 47 :: n).drop 1 = r ++ 47 :: n := rfl
  rw [e, segA_app, List.filter_append]
  rfl
theorem names_one {n : List UInt8} (h : (47 : UInt8) ∉ n) : namesA [] n = [n].filter goodN := by
  unfold namesA
  rw [segA_one _ _ h, List.nil_append]

end Go.Proofs.YtilemgpopjlchaaDoor
