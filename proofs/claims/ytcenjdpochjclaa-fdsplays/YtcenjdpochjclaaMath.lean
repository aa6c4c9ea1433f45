/-
  A task's files, in plain words: places, each with a file or free; and what was installed, one behind the other.
-/
import Derived.WalkKit
namespace Go.Proofs.Ytcenjdpochjclaa

/-- places, each with a file or none. -/
abbrev Fd := List (Option Int)
def newF : Fd := [some 0, some 1, some 2, none, none, none, none, none, none, none, none, none, none, none, none, none]
/-- the lowest free place. -/
def free : Fd → Nat
  | [] => 0
  | none :: _ => 0
  | some _ :: l => free l + 1
def lenF : Fd → Nat
  | [] => 0
  | none :: l => lenF l
  | some _ :: l => lenF l + 1
def instF (l : Fd) (v : Int) : Fd := l.set (free l) (some v)
def getF (l : Fd) (z : Int) : Option Int := if 0 ≤ z then (l[z.toNat]?).getD none else none
def shutF (l : Fd) (z : Int) : Fd := if 0 ≤ z then l.set z.toNat none else l
/-- what Install and Close tell. -/
def spotF (l : Fd) : Int := if free l < l.length then (free l : Int) else -1
def fullF (l : Fd) : Int := if free l < l.length then 0 else 16
def noneF (l : Fd) (z : Int) : Int := if (getF l z).isSome then 0 else 17

theorem free_le (l : Fd) : free l ≤ l.length := by
  induction l with
  | nil => exact Nat.le_refl _
  | cons o l ih =>
    cases o with
    | none => exact Nat.zero_le _
    | some x => exact Nat.succ_le_succ ih
theorem free_none {l : Fd} (h : free l < l.length) : l[free l]? = some none := by
  induction l with
  | nil => cases h
  | cons o l ih =>
    cases o with
    | none => rfl
    | some x => exact ih (Nat.lt_of_succ_lt_succ h)
theorem free_some {l : Fd} {k : Nat} (h : k < free l) : ∃ x, l[k]? = some (some x) := by
  induction l generalizing k with
  | nil => cases h
  | cons o l ih =>
    cases o with
    | none => cases h
    | some x =>
      cases k with
      | zero => exact ⟨x, rfl⟩
      | succ k => exact ih (Nat.lt_of_succ_lt_succ h)
theorem len_instF (l : Fd) (v : Int) : (instF l v).length = l.length := List.length_set
theorem len_shutF (l : Fd) (z : Int) : (shutF l z).length = l.length := by
  unfold shutF
  split
  · exact List.length_set
  · rfl
theorem lenF_le (l : Fd) : lenF l ≤ l.length := by
  induction l with
  | nil => exact Nat.le_refl _
  | cons o l ih =>
    cases o with
    | none => exact Nat.le_succ_of_le ih
    | some x => exact Nat.succ_le_succ ih
theorem instF_full {l : Fd} (h : ¬ free l < l.length) (v : Int) : instF l v = l := by
  unfold instF
  exact List.set_eq_of_length_le (by omega)
theorem lenF_inst {l : Fd} (h : free l < l.length) (v : Int) : lenF (instF l v) = lenF l + 1 := by
  unfold instF
  induction l with
  | nil => cases h
  | cons o l ih =>
    cases o with
    | none => rfl
    | some x =>
      show lenF (l.set (free l) (some v)) + 1 = lenF l + 1 + 1
      rw [ih (Nat.lt_of_succ_lt_succ h)]
/-- no place is free just if all have a file. -/
theorem lenF_full {l : Fd} : lenF l = l.length ↔ ¬ free l < l.length := by
  induction l with
  | nil => exact ⟨fun _ h => (by cases h), fun _ => rfl⟩
  | cons o l ih =>
    cases o with
    | none =>
      have := lenF_le l
      show lenF l = l.length + 1 ↔ ¬ 0 < l.length + 1
      omega
    | some x =>
      show lenF l + 1 = l.length + 1 ↔ ¬ free l + 1 < l.length + 1
      omega
theorem lenF_set_none {l : Fd} {k : Nat} {x : Int} (h : l[k]? = some (some x)) : lenF (l.set k none) + 1 = lenF l := by
  induction l generalizing k with
  | nil => cases h
  | cons o l ih =>
    cases k with
    | zero =>
      cases h
      rfl
    | succ k =>
      have h2 : l[k]? = some (some x) := h
      cases o with
      | none => exact ih h2
      | some y =>
        show lenF (l.set k none) + 1 + 1 = lenF l + 1
        rw [ih h2]
theorem lenF_take (l : Fd) (k : Nat) (h : k < l.length) : lenF (l.take (k + 1)) = lenF (l.take k) + if (l[k]).isSome then 1 else 0 := by
  induction l generalizing k with
  | nil => cases h
  | cons o l ih =>
    cases k with
    | zero => cases o <;> rfl
    | succ k =>
      have := ih k (Nat.lt_of_succ_lt_succ h)
      cases o with
      | none => exact this
      | some x =>
        show lenF (l.take (k + 1)) + 1 = lenF (l.take k) + 1 + _
        rw [this]
        simp only [List.getElem_cons_succ]
        omega

theorem getF_neg {l : Fd} {z : Int} (h : z < 0) : getF l z = none := if_neg (by omega)
theorem getF_nat (l : Fd) (k : Nat) : getF l (k : Int) = (l[k]?).getD none := by
  unfold getF
  rw [if_pos (by omega), Int.toNat_natCast]
theorem getF_at {l : Fd} {k : Nat} (h : k < l.length) : getF l (k : Int) = l[k] := by
  rw [getF_nat, List.getElem?_eq_getElem h]
  rfl
theorem getF_out {l : Fd} {z : Int} (h : (l.length : Int) ≤ z) : getF l z = none := by
  unfold getF
  rw [if_pos (by omega), List.getElem?_eq_none (by omega)]
  rfl
theorem getF_some {l : Fd} {z x : Int} (h : getF l z = some x) : 0 ≤ z ∧ l[z.toNat]? = some (some x) := by
  unfold getF at h
  split at h
  · rename_i h0
    refine ⟨h0, ?_⟩
    cases e : l[z.toNat]? with
    | none => rw [e] at h; cases h
    | some o => rw [e] at h; exact congrArg some h
  · cases h
theorem getF_set (l : Fd) (k : Nat) (o : Option Int) (z : Int) (hk : k < l.length) : getF (l.set k o) z = if z = (k : Int) then o else getF l z := by
  unfold getF
  by_cases h0 : 0 ≤ z
  · rw [if_pos h0, if_pos h0, List.getElem?_set]
    by_cases e : k = z.toNat
    · rw [if_pos e, if_pos hk, if_pos (by omega)]
      rfl
    · rw [if_neg e, if_neg (by omega)]
  · rw [if_neg h0, if_neg h0, if_neg (by omega)]
theorem getF_inst {l : Fd} (h : free l < l.length) (v z : Int) : getF (instF l v) z = if z = (free l : Int) then some v else getF l z := getF_set l _ _ z h
theorem getF_free {l : Fd} (h : free l < l.length) : getF l (free l : Int) = none := by rw [getF_nat, free_none h]; rfl
theorem shutF_none {l : Fd} {z : Int} (h : getF l z = none) : shutF l z = l := by
  unfold shutF
  split
  · rename_i h0
    unfold getF at h
    rw [if_pos h0] at h
    by_cases hl : z.toNat < l.length
    · rw [List.getElem?_eq_getElem hl] at h
      have h2 : l[z.toNat] = none := h
      conv => lhs; rw [← h2]
      exact List.set_getElem_self hl
    · exact List.set_eq_of_length_le (by omega)
  · rfl
theorem shutF_at (l : Fd) (k : Nat) : shutF l (k : Int) = l.set k none := by
  unfold shutF
  rw [if_pos (by omega), Int.toNat_natCast]
theorem getF_shut (l : Fd) (y z : Int) : getF (shutF l y) z = if z = y then none else getF l z := by
  by_cases hy : 0 ≤ y
  · obtain ⟨k, rfl⟩ := Int.eq_ofNat_of_zero_le hy
    by_cases hk : k < l.length
    · rw [shutF_at, getF_set l k none z hk]
    · rw [shutF_none (getF_out (by omega))]
      split
      · subst z
        exact getF_out (by omega)
      · rfl
  · rw [shutF_none (getF_neg (by omega))]
    split
    · subst z
      exact getF_neg (by omega)
    · rfl
theorem lenF_shut {l : Fd} {z : Int} (h : (getF l z).isSome = true) : lenF (shutF l z) + 1 = lenF l := by
  obtain ⟨x, hx⟩ := Option.isSome_iff_exists.1 h
  obtain ⟨h0, h1⟩ := getF_some hx
  unfold shutF
  rw [if_pos h0]
  exact lenF_set_none h1
/-- what was installed, and closed at once, leaves all as it was. -/
theorem shut_inst {l : Fd} (h : free l < l.length) (v : Int) : shutF (instF l v) (free l : Int) = l := by
  rw [shutF_at]
  unfold instF
  rw [List.set_set]
  have h2 := free_none h
  rw [List.getElem?_eq_getElem h] at h2
  conv => lhs; rw [← Option.some.inj h2]
  exact List.set_getElem_self h
theorem inst_ne {l : Fd} (h : free l < l.length) (v : Int) : instF l v ≠ l := fun e => by
  have h1 := lenF_inst h v
  rw [e] at h1
  omega

theorem free_zero {l : Fd} (h : lenF l = 0) : free l = 0 := by
  cases l with
  | nil => rfl
  | cons o l =>
    cases o with
    | none => rfl
    | some x => cases h
/-- where no file stands above a free place the next one is the next place. -/
theorem free_inst {l : Fd} (hp : lenF l = free l) (h : free l < l.length) (v : Int) : free (instF l v) = free l + 1 := by
  unfold instF
  induction l with
  | nil => cases h
  | cons o l ih =>
    cases o with
    | none =>
      have hl : lenF l = 0 := hp
      show free l + 1 = 0 + 1
      rw [free_zero hl]
    | some x =>
      show free (l.set (free l) (some v)) + 1 = free l + 1 + 1
      rw [ih (Nat.succ.inj hp) (Nat.lt_of_succ_lt_succ h)]

/-- what was installed: places with their files, in no order. -/
abbrev Tm := List (Int × Int)
def keys (T : Tm) : List Int := T.map (·.1)
def lefts (T : Tm) : List Int := T.map (·.2)
def lookT : Tm → Int → Option Int
  | [], _ => none
  | p :: T, z => if p.1 = z then some p.2 else lookT T z
def stopT (T : Tm) (z : Int) : Tm := T.filter fun p => decide (p.1 ≠ z)
theorem keys_len (T : Tm) : (keys T).length = T.length := by unfold keys; rw [List.length_map]
theorem lefts_len (T : Tm) : (lefts T).length = T.length := by unfold lefts; rw [List.length_map]
theorem keys_get {T : Tm} {i : Nat} (h : i < (keys T).length) (h' : i < T.length) : (keys T)[i] = T[i].1 := List.getElem_map _
theorem lefts_get {T : Tm} {i : Nat} (h : i < (lefts T).length) (h' : i < T.length) : (lefts T)[i] = T[i].2 := List.getElem_map _
theorem lookT_iff (T : Tm) (z : Int) : (lookT T z).isSome = true ↔ z ∈ keys T := by
  induction T with
  | nil => simp [lookT, keys]
  | cons p T ih =>
    unfold lookT keys
    by_cases h : p.1 = z
    · simp [h]
    · rw [if_neg h, ih, List.map_cons, List.mem_cons]
      constructor
      · exact fun k => .inr k
      · rintro (k | k)
        · exact absurd k.symm h
        · exact k
theorem lookT_not {T : Tm} {z : Int} (h : z ∉ keys T) : lookT T z = none := by
  cases e : lookT T z with
  | none => rfl
  | some x => exact absurd ((lookT_iff T z).1 (by rw [e]; rfl)) h
/-- what stands at the first place of a number is what it leads to. -/
theorem lookT_first {T : Tm} {z : Int} {i : Nat} (hi : i < T.length) (h1 : z ∉ (keys T).take i) (h2 : T[i].1 = z) : lookT T z = some T[i].2 := by
  induction T generalizing i with
  | nil => cases hi
  | cons p T ih =>
    cases i with
    | zero =>
      show (if p.1 = z then some p.2 else lookT T z) = _
      exact if_pos h2
    | succ i =>
      unfold keys at h1
      rw [List.map_cons, List.take_succ_cons, List.mem_cons] at h1
      have hp : ¬ p.1 = z := fun e => h1 (.inl e.symm)
      unfold lookT
      rw [if_neg hp]
      exact ih (Nat.lt_of_succ_lt_succ hi) (fun hm => h1 (.inr hm)) h2
theorem lookT_app (T : Tm) (k v z : Int) (hk : k ∉ keys T) : lookT (T ++ [(k, v)]) z = if z = k then some v else lookT T z := by
  induction T with
  | nil =>
    show (if k = z then some v else none) = _
    by_cases h : k = z
    · rw [if_pos h, if_pos h.symm]
    · rw [if_neg h, if_neg (fun e => h e.symm)]
      rfl
  | cons p T ih =>
    unfold keys at hk
    rw [List.map_cons, List.mem_cons] at hk
    rw [List.cons_append]
    unfold lookT
    by_cases h : p.1 = z
    · rw [if_pos h, if_pos h]
      split
      · rename_i e
        exact absurd (.inl (by rw [h, e])) hk
      · rfl
    · rw [if_neg h, if_neg h]
      exact ih fun hm => hk (.inr hm)
theorem keys_stopT (T : Tm) (z : Int) : keys (stopT T z) = (keys T).filter fun y => decide (y ≠ z) := by
  unfold keys stopT
  rw [List.filter_map]
  rfl
theorem mem_keys_stopT {T : Tm} {z y : Int} : y ∈ keys (stopT T z) ↔ y ∈ keys T ∧ y ≠ z := by
  rw [keys_stopT, List.mem_filter, decide_eq_true_iff]
theorem lookT_stop (T : Tm) (y z : Int) : lookT (stopT T y) z = if z = y then none else lookT T z := by
  induction T with
  | nil =>
    show none = _
    split <;> rfl
  | cons p T ih =>
    unfold stopT at *
    by_cases h : p.1 = y
    · rw [List.filter_cons_of_neg (by simp [h]), ih]
      split
      · rfl
      · rename_i hz
        unfold lookT
        rw [if_neg (fun e => hz (by rw [← e, h]))]
        cases T <;> rfl
    · rw [List.filter_cons_of_pos (by simp [h])]
      unfold lookT
      by_cases hp : p.1 = z
      · rw [if_pos hp, if_pos hp, if_neg (fun e => h (by rw [hp, e]))]
      · rw [if_neg hp, if_neg hp]
        exact ih
theorem mem_keys {T : Tm} {z : Int} : z ∈ keys T ↔ ∃ x, (z, x) ∈ T := by
  unfold keys
  rw [List.mem_map]
  exact ⟨fun ⟨p, hp, e⟩ => ⟨p.2, by rw [← e]; exact hp⟩, fun ⟨x, hx⟩ => ⟨(z, x), hx, rfl⟩⟩
theorem stopT_not {T : Tm} {z : Int} (h : z ∉ keys T) : stopT T z = T := by
  unfold stopT
  refine List.filter_eq_self.2 fun p hp => decide_eq_true fun e => h ?_
  exact mem_keys.2 ⟨p.2, by rw [← e]; exact hp⟩
theorem len_stopT_in {T : Tm} (h : (keys T).Nodup) {z : Int} (hz : z ∈ keys T) : (stopT T z).length + 1 = T.length := by
  induction T with
  | nil => cases hz
  | cons p T ih =>
    have hn := List.nodup_cons.1 h
    by_cases e : p.1 = z
    · have h2 : stopT (p :: T) z = stopT T z := by
        unfold stopT
        rw [List.filter_cons_of_neg (by simp [e])]
      rw [h2, stopT_not (by rw [← e]; exact hn.1)]
      rfl
    · have h2 : stopT (p :: T) z = p :: stopT T z := by
        unfold stopT
        rw [List.filter_cons_of_pos (by simp [e])]
      have hz2 : z ∈ keys T := by
        unfold keys at hz
        rw [List.map_cons, List.mem_cons] at hz
        rcases hz with hz | hz
        · exact absurd hz.symm e
        · exact hz
      rw [h2, List.length_cons, List.length_cons, ih hn.2 hz2]
/-- one less, at a place. -/
theorem stop_at {T : Tm} {z : Int} {i : Nat} (hn : (keys T).Nodup) (hi : i < T.length) (hz : (keys T)[i]? = some z) : stopT T z = T.take i ++ T.drop (i + 1) := by
  have hsp : T.take i ++ T[i] :: T.drop (i + 1) = T := by rw [← List.drop_eq_getElem_cons hi, List.take_append_drop]
  have hzi : T[i].1 = z := by
    unfold keys at hz
    rw [List.getElem?_map, List.getElem?_eq_getElem hi] at hz
    exact Option.some.inj hz
  have hkn : ∀ j (hj : j < T.length), j ≠ i → T[j].1 ≠ z := fun j hj hji e => by
    have h1 := List.pairwise_iff_getElem.1 hn
    have g : ∀ (a : Nat) (ha : a < T.length), (keys T)[a]'(by rw [keys_len]; exact ha) = T[a].1 := fun a ha => by unfold keys; rw [List.getElem_map]
    rcases Nat.lt_or_ge j i with h | h
    · have := h1 j i (by rw [keys_len]; exact hj) (by rw [keys_len]; exact hi) h
      rw [g j hj, g i hi, hzi] at this
      exact this e
    · have := h1 i j (by rw [keys_len]; exact hi) (by rw [keys_len]; exact hj) (by omega)
      rw [g j hj, g i hi, hzi] at this
      exact this e.symm
  unfold stopT
  conv => lhs; rw [← hsp]
  rw [List.filter_append, List.filter_cons_of_neg (by simp [hzi])]
  congr 1
  · refine List.filter_eq_self.2 fun p hp => decide_eq_true ?_
    obtain ⟨j, hj, rfl⟩ := List.getElem_of_mem hp
    rw [List.length_take] at hj
    rw [List.getElem_take]
    exact hkn j (by omega) (by omega)
  · refine List.filter_eq_self.2 fun p hp => decide_eq_true ?_
    obtain ⟨j, hj, rfl⟩ := List.getElem_of_mem hp
    rw [List.length_drop] at hj
    rw [List.getElem_drop]
    exact hkn _ (by omega) (by omega)
/-- what was installed, when Install is called. -/
def instT (l : Fd) (T : Tm) (v : Int) : Tm := if free l < l.length then T ++ [((free l : Int), v)] else T
/-- both have the same files. -/
structure Rl (l : Fd) (T : Tm) : Prop where
  len16 : l.length = 16
  nd : (keys T).Nodup
  look : ∀ z, lookT T z = getF l z
  len : T.length = lenF l
theorem Rl.new : Rl newF [(0, 0), (1, 1), (2, 2)] := by
  refine ⟨rfl, by decide, fun z => ?_, rfl⟩
  by_cases h0 : 0 ≤ z
  · obtain ⟨k, rfl⟩ := Int.eq_ofNat_of_zero_le h0
    rw [getF_nat]
    match k with
    | 0 => rfl
    | 1 => rfl
    | 2 => rfl
    | 3 => rfl
    | 4 => rfl
    | 5 => rfl
    | 6 => rfl
    | 7 => rfl
    | 8 => rfl
    | 9 => rfl
    | 10 => rfl
    | 11 => rfl
    | 12 => rfl
    | 13 => rfl
    | 14 => rfl
    | 15 => rfl
    | k + 16 =>
      have e : newF[k + 16]? = none := List.getElem?_eq_none (by show 16 ≤ k + 16; omega)
      rw [e]
      unfold lookT lookT lookT lookT
      rw [if_neg (by show ¬ ((0 : Int) = _); omega), if_neg (by show ¬ ((1 : Int) = _); omega), if_neg (by show ¬ ((2 : Int) = _); omega)]
      rfl
  · rw [getF_neg (by omega)]
    unfold lookT lookT lookT lookT
    rw [if_neg (by show ¬ ((0 : Int) = _); omega), if_neg (by show ¬ ((1 : Int) = _); omega), if_neg (by show ¬ ((2 : Int) = _); omega)]
theorem Rl.le {l : Fd} {T : Tm} (h : Rl l T) : T.length ≤ 16 := by have := lenF_le l; rw [h.len16] at this; rw [h.len]; exact this
theorem Rl.not {l : Fd} {T : Tm} (h : Rl l T) {z : Int} (hz : getF l z = none) : z ∉ keys T := fun hm => by
  have := (lookT_iff T z).2 hm
  rw [h.look, hz] at this
  cases this
theorem Rl.inst {l : Fd} {T : Tm} (h : Rl l T) (v : Int) : Rl (instF l v) (instT l T v) := by
  unfold instT
  by_cases hf : free l < l.length
  · rw [if_pos hf]
    have hn := h.not (getF_free hf)
    refine ⟨(len_instF l v).trans h.len16, ?_, fun z => ?_, ?_⟩
    · unfold keys
      rw [List.map_append]
      refine List.nodup_append.2 ⟨h.nd, by simp, fun a ha b hb => ?_⟩
      simp at hb
      subst hb
      exact fun e => hn (e ▸ ha)
    · rw [lookT_app T _ v z hn, getF_inst hf, h.look]
    · rw [List.length_append, lenF_inst hf, h.len]
      rfl
  · rw [if_neg hf, instF_full hf]
    exact h
theorem Rl.shut {l : Fd} {T : Tm} (h : Rl l T) (y : Int) : Rl (shutF l y) (stopT T y) := by
  refine ⟨(len_shutF l y).trans h.len16, by rw [keys_stopT]; exact h.nd.filter _, fun z => ?_, ?_⟩
  · rw [lookT_stop, getF_shut, h.look]
  · cases e : getF l y with
    | none =>
      rw [shutF_none e, stopT_not (h.not e)]
      exact h.len
    | some x =>
      have h1 : (getF l y).isSome = true := by rw [e]; rfl
      have h2 := lenF_shut h1
      rw [← h.look, lookT_iff] at h1
      have h3 := len_stopT_in h.nd h1
      have h4 := h.len
      omega

end Go.Proofs.Ytcenjdpochjclaa
