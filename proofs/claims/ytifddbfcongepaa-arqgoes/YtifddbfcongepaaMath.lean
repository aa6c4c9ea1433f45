/-
  Timers and what has come, in plain words: a list of numbers with their ticks; a list of numbers.
-/
import Derived.WalkKit
namespace Go.Proofs.Ytifddbfcongepaa

def U64 (z : Int) : Prop := 0 ≤ z ∧ z < 18446744073709551616
/-- timers: which are set, and how many ticks each has left. -/
abbrev Tm := List (Int × Int)
def keys (T : Tm) : List Int := T.map (·.1)
def stopT (T : Tm) (z : Int) : Tm := T.filter fun p => decide (p.1 ≠ z)
def setT (T : Tm) (z v : Int) : Tm := stopT T z ++ [(z, v)]
def decT (T : Tm) : Tm := T.map fun p => (p.1, p.2 - 1)
def offT (T : Tm) : List Int := (T.filter fun p => decide (p.2 = 0)).map (·.1)
def resT (T : Tm) (v : Int) : Tm := T.map fun p => if p.2 = 0 then (p.1, v) else p
def tickT (T : Tm) (v : Int) : Tm := resT (decT T) v
def offs (T : Tm) : List Int := offT (decT T)

/-- timers as they may be. -/
structure Okt (T : Tm) (v : Int) (n : Nat) : Prop where
  nd : (keys T).Nodup
  rng : ∀ p ∈ T, U64 p.1 ∧ 1 ≤ p.2 ∧ p.2 ≤ v
  v1 : 1 ≤ v
  v2 : v ≤ 1000
  len : T.length ≤ n

theorem mem_keys {T : Tm} {z : Int} : z ∈ keys T ↔ ∃ x, (z, x) ∈ T := by
  unfold keys
  rw [List.mem_map]
  exact ⟨fun ⟨p, hp, e⟩ => ⟨p.2, by rw [← e]; exact hp⟩, fun ⟨x, hx⟩ => ⟨(z, x), hx, rfl⟩⟩
theorem keys_inj {T : Tm} (h : (keys T).Nodup) {z x y : Int} (h1 : (z, x) ∈ T) (h2 : (z, y) ∈ T) : x = y := by
  induction T with
  | nil => cases h1
  | cons p T ih =>
    have hn := List.nodup_cons.1 h
    rcases List.mem_cons.1 h1 with e1 | m1
    · rcases List.mem_cons.1 h2 with e2 | m2
      · rw [← e1] at e2; cases e2; rfl
      · exact absurd (mem_keys.2 ⟨y, m2⟩) (by rw [← e1] at hn; exact hn.1)
    · rcases List.mem_cons.1 h2 with e2 | m2
      · exact absurd (mem_keys.2 ⟨x, m1⟩) (by rw [← e2] at hn; exact hn.1)
      · exact ih hn.2 m1 m2
theorem mem_stopT {T : Tm} {z : Int} {p : Int × Int} : p ∈ stopT T z ↔ p ∈ T ∧ p.1 ≠ z := by
  unfold stopT
  rw [List.mem_filter, decide_eq_true_iff]
theorem keys_stopT (T : Tm) (z : Int) : keys (stopT T z) = (keys T).filter fun y => decide (y ≠ z) := by
  unfold keys stopT
  rw [List.filter_map]
  rfl
theorem mem_keys_stopT {T : Tm} {z y : Int} : y ∈ keys (stopT T z) ↔ y ∈ keys T ∧ y ≠ z := by
  rw [keys_stopT, List.mem_filter, decide_eq_true_iff]
theorem keys_setT (T : Tm) (z v : Int) : keys (setT T z v) = keys (stopT T z) ++ [z] := by
  unfold setT keys
  rw [List.map_append]
  rfl
theorem mem_setT {T : Tm} {z v : Int} {p : Int × Int} : p ∈ setT T z v ↔ (p ∈ T ∧ p.1 ≠ z) ∨ p = (z, v) := by
  unfold setT
  rw [List.mem_append, mem_stopT, List.mem_singleton]
theorem mem_keys_setT {T : Tm} {z v y : Int} : y ∈ keys (setT T z v) ↔ y ∈ keys T ∨ y = z := by
  rw [keys_setT, List.mem_append, mem_keys_stopT, List.mem_singleton]
  by_cases h : y = z
  · simp [h]
  · simp [h]
theorem stopT_not {T : Tm} {z : Int} (h : z ∉ keys T) : stopT T z = T := by
  unfold stopT
  refine List.filter_eq_self.2 fun p hp => decide_eq_true fun e => h ?_
  exact mem_keys.2 ⟨p.2, by rw [← e]; exact hp⟩
theorem nodup_stopT {T : Tm} (h : (keys T).Nodup) (z : Int) : (keys (stopT T z)).Nodup := by
  rw [keys_stopT]
  exact h.filter _
theorem nodup_setT {T : Tm} (h : (keys T).Nodup) (z v : Int) : (keys (setT T z v)).Nodup := by
  rw [keys_setT]
  refine List.nodup_append.2 ⟨nodup_stopT h z, by simp, fun a ha b hb => ?_⟩
  rw [List.mem_singleton] at hb
  subst hb
  exact (mem_keys_stopT.1 ha).2
theorem len_stopT (T : Tm) (z : Int) : (stopT T z).length ≤ T.length := List.length_filter_le _ _
theorem len_stopT_in {T : Tm} (h : (keys T).Nodup) {z : Int} (hz : z ∈ keys T) : (stopT T z).length + 1 = T.length := by
  induction T with
  | nil => cases hz
  | cons p T ih =>
    have hn := List.nodup_cons.1 h
    by_cases e : p.1 = z
    · have : z ∉ keys T := by rw [← e]; exact hn.1
      have e2 : stopT (p :: T) z = T := by
        show List.filter _ (p :: T) = T
        rw [List.filter_cons_of_neg (by simp [e])]
        exact stopT_not this
      rw [e2, List.length_cons]
    · have hz2 : z ∈ keys T := by
        rcases List.mem_cons.1 hz with e2 | m
        · exact absurd e2.symm e
        · exact m
      have e2 : stopT (p :: T) z = p :: stopT T z := by
        show List.filter _ (p :: T) = _
        rw [List.filter_cons_of_pos (by simp [e])]
        rfl
      rw [e2, List.length_cons, List.length_cons, ih hn.2 hz2]
theorem len_setT_in {T : Tm} (h : (keys T).Nodup) {z v : Int} (hz : z ∈ keys T) : (setT T z v).length = T.length := by
  unfold setT
  rw [List.length_append, List.length_singleton, len_stopT_in h hz]
theorem len_setT_new {T : Tm} {z v : Int} (hz : z ∉ keys T) : (setT T z v).length = T.length + 1 := by
  unfold setT
  rw [List.length_append, List.length_singleton, stopT_not hz]
theorem len_setT (T : Tm) (z v : Int) : (setT T z v).length ≤ T.length + 1 := by
  unfold setT
  rw [List.length_append, List.length_singleton]
  have := len_stopT T z
  omega

section
variable {T : Tm} {v z : Int} {n : Nat}
theorem Okt.nil (h1 : 1 ≤ v) (h2 : v ≤ 1000) (n : Nat) : Okt [] v n := ⟨List.nodup_nil, (by intro p hp; cases hp), h1, h2, Nat.zero_le _⟩
theorem Okt.stop (h : Okt T v n) (z : Int) : Okt (stopT T z) v n := ⟨nodup_stopT h.nd z, fun p hp => h.rng p (mem_stopT.1 hp).1, h.v1, h.v2, Nat.le_trans (len_stopT T z) h.len⟩
theorem Okt.set (h : Okt T v n) (hz : U64 z) : Okt (setT T z v) v (n + 1) := ⟨nodup_setT h.nd z v, fun p hp => by
  rcases mem_setT.1 hp with ⟨h1, _⟩ | rfl
  · exact h.rng p h1
  · exact ⟨hz, h.v1, Int.le_refl _⟩, h.v1, h.v2, Nat.le_trans (len_setT T z v) (Nat.succ_le_succ h.len)⟩
theorem Okt.mono (h : Okt T v n) {m : Nat} (hm : n ≤ m) : Okt T v m := ⟨h.nd, h.rng, h.v1, h.v2, Nat.le_trans h.len hm⟩
theorem keys_decT (T : Tm) : keys (decT T) = keys T := by
  unfold keys decT
  rw [List.map_map]
  rfl
theorem keys_resT (T : Tm) (v : Int) : keys (resT T v) = keys T := by
  unfold keys resT
  rw [List.map_map]
  refine List.map_congr_left fun p _ => ?_
  show (if p.2 = 0 then (p.1, v) else p).1 = p.1
  split <;> rfl
theorem keys_tickT (T : Tm) (v : Int) : keys (tickT T v) = keys T := (keys_resT _ _).trans (keys_decT T)
theorem Okt.tick (h : Okt T v n) : Okt (tickT T v) v n := by
  refine ⟨by rw [keys_tickT]; exact h.nd, fun p hp => ?_, h.v1, h.v2, by unfold tickT resT decT; rw [List.length_map, List.length_map]; exact h.len⟩
  unfold tickT resT decT at hp
  rw [List.mem_map] at hp
  obtain ⟨q, hq, rfl⟩ := hp
  rw [List.mem_map] at hq
  obtain ⟨s, hs, rfl⟩ := hq
  obtain ⟨h1, h2, h3⟩ := h.rng s hs
  have := h.v1
  split
  · exact ⟨h1, this, Int.le_refl _⟩
  · rename_i hne
    refine ⟨h1, ?_, ?_⟩
    · show 1 ≤ s.2 - 1
      have : s.2 - 1 ≠ 0 := hne
      omega
    · show s.2 - 1 ≤ v
      omega
end

theorem mem_offs {T : Tm} {z : Int} : z ∈ offs T ↔ (z, 1) ∈ T := by
  unfold offs offT decT
  rw [List.mem_map]
  constructor
  · rintro ⟨p, hp, rfl⟩
    rw [List.mem_filter, List.mem_map] at hp
    obtain ⟨⟨q, hq, rfl⟩, h2⟩ := hp
    have h3 : q.2 - 1 = 0 := of_decide_eq_true h2
    have h4 : q.2 = 1 := by omega
    show (q.1, 1) ∈ T
    rw [← h4]
    exact hq
  · intro h
    exact ⟨(z, 0), List.mem_filter.2 ⟨List.mem_map.2 ⟨(z, 1), h, rfl⟩, rfl⟩, rfl⟩

/-- rising. -/
def Rise (ts : List Int) : Prop := ts.Pairwise (· < ·)
theorem rise_ext : ∀ {a b : List Int}, Rise a → Rise b → (∀ z, z ∈ a ↔ z ∈ b) → a = b
  | [], [], _, _, _ => rfl
  | [], y :: b, _, _, h => by have := (h y).2 (List.mem_cons_self ..); cases this
  | x :: a, [], _, _, h => by have := (h x).1 (List.mem_cons_self ..); cases this
  | x :: a, y :: b, ha, hb, h => by
    have ha' := List.pairwise_cons.1 ha
    have hb' := List.pairwise_cons.1 hb
    have hxy : x = y := by
      rcases List.mem_cons.1 ((h x).1 (List.mem_cons_self ..)) with e | m
      · exact e
      · rcases List.mem_cons.1 ((h y).2 (List.mem_cons_self ..)) with e | m2
        · exact e.symm
        · have h1 := hb'.1 x m
          have h2 := ha'.1 y m2
          omega
    subst hxy
    congr 1
    refine rise_ext ha'.2 hb'.2 fun z => ?_
    constructor
    · intro hz
      rcases List.mem_cons.1 ((h z).1 (List.mem_cons_of_mem _ hz)) with e | m
      · have := ha'.1 z hz; omega
      · exact m
    · intro hz
      rcases List.mem_cons.1 ((h z).2 (List.mem_cons_of_mem _ hz)) with e | m
      · have := hb'.1 z hz; omega
      · exact m
theorem Rise.nodup {a : List Int} (h : Rise a) : a.Nodup := h.imp fun h => by omega

/-- what has come: each but once. -/
def takeS (S : List Int) (z : Int) : List Int := if z ∈ S then S else S ++ [z]
theorem mem_takeS {S : List Int} {z y : Int} : y ∈ takeS S z ↔ y ∈ S ∨ y = z := by
  unfold takeS
  split
  · rename_i h
    exact ⟨.inl, fun h2 => by rcases h2 with h2 | rfl; exact h2; exact h⟩
  · rw [List.mem_append, List.mem_singleton]
theorem nodup_takeS {S : List Int} (h : S.Nodup) (z : Int) : (takeS S z).Nodup := by
  unfold takeS
  split
  · exact h
  · rename_i hz
    exact List.nodup_append.2 ⟨h, by simp, fun a ha b hb => by rw [List.mem_singleton] at hb; subst hb; intro e; subst e; exact hz ha⟩
def seen (l : List Int) : List Int := l.foldl takeS []
theorem seen_snoc (l : List Int) (z : Int) : seen (l ++ [z]) = takeS (seen l) z := by
  unfold seen
  rw [List.foldl_append]
  rfl
theorem mem_fold (l : List Int) : ∀ (S : List Int) (y : Int), y ∈ l.foldl takeS S ↔ y ∈ S ∨ y ∈ l := by
  induction l with
  | nil => intro S y; simp
  | cons x l ih =>
    intro S y
    rw [List.foldl_cons, ih, mem_takeS, List.mem_cons, or_assoc]
theorem mem_seen {l : List Int} {y : Int} : y ∈ seen l ↔ y ∈ l := by
  unfold seen
  rw [mem_fold]
  simp
theorem nodup_fold (l : List Int) : ∀ S : List Int, S.Nodup → (l.foldl takeS S).Nodup := by
  induction l with
  | nil => exact fun S h => h
  | cons x l ih => exact fun S h => ih _ (nodup_takeS h x)
theorem nodup_seen (l : List Int) : (seen l).Nodup := nodup_fold l [] List.nodup_nil
theorem len_fold (l : List Int) : ∀ S : List Int, (l.foldl takeS S).length ≤ S.length + l.length := by
  induction l with
  | nil => intro S; simp
  | cons x l ih =>
    intro S
    have h1 := ih (takeS S x)
    have h2 : (takeS S x).length ≤ S.length + 1 := by
      unfold takeS
      split
      · omega
      · rw [List.length_append, List.length_singleton]
        exact Nat.le_refl _
    rw [List.foldl_cons, List.length_cons]
    omega
theorem len_seen (l : List Int) : (seen l).length ≤ l.length := by
  have := len_fold l []
  simpa [seen] using this
theorem nodup_le : ∀ (l m : List Int), l.Nodup → (∀ x ∈ l, x ∈ m) → l.length ≤ m.length
  | [], _, _, _ => Nat.zero_le _
  | x :: l, m, hn, hs => by
    have hx : x ∈ m := hs x (List.mem_cons_self ..)
    have h1 := nodup_le l (m.erase x) (List.nodup_cons.1 hn).2 fun y hy => by
      have hne : y ≠ x := fun e => (List.nodup_cons.1 hn).1 (e ▸ hy)
      exact (List.mem_erase_of_ne hne).2 (hs y (List.mem_cons_of_mem _ hy))
    rw [List.length_erase_of_mem hx] at h1
    have h2 := List.length_pos_of_mem hx
    rw [List.length_cons]
    omega
/-- the same came, in whatever order. -/
theorem seen_same {l m : List Int} (h : ∀ z, z ∈ l ↔ z ∈ m) : (seen l).length = (seen m).length :=
  Nat.le_antisymm (nodup_le _ _ (nodup_seen l) fun x hx => mem_seen.2 ((h x).1 (mem_seen.1 hx))) (nodup_le _ _ (nodup_seen m) fun x hx => mem_seen.2 ((h x).2 (mem_seen.1 hx)))

end Go.Proofs.Ytifddbfcongepaa
