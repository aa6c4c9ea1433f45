/-
  What the laws say, in plain words: IDs rise; how one ended stays; all end in time; nothing of an older epoch does anything.
-/
import Derived.Test.YtlckconhhhllkaaMath
namespace Go.Proofs.Ytlckconhhhllkaa

theorem addE_zero {s : Nt} {t : Int} (h : addE s t = 0) : (1 ≤ t ∧ t ≤ 4) ∧ hasTask s.L t = false ∧ (s.L.length : Int) < s.size ∧ s.next ≠ 18446744073709551615 := by
  unfold addE at h
  split at h
  · cases h
  · rename_i h1
    split at h
    · cases h
    · rename_i h2
      split at h
      · cases h
      · rename_i h3
        exact ⟨by omega, by simpa using h2, by omega, fun e => h3 (.inr e)⟩
theorem next_reply (s : Nt) (ep id k v : Int) : (replyS s ep id k v).next = s.next := by unfold replyS; split <;> rfl
theorem next_rise (s : Nt) (ep : Int) : (riseS s ep).next = s.next := by unfold riseS; split <;> rfl
theorem step_next (s : Nt) (o : Do) : (stepS s o).next = s.next + (stepI s o).length := by
  by_cases hd : o.d = 0 ∨ o.d = 1
  · rw [step_add hd]
    by_cases he : addE s o.n = 0
    · rw [stepI_add hd he]
      unfold addS
      rw [if_pos he]
      rfl
    · rw [stepI_err he]
      unfold addS
      rw [if_neg he]
      show s.next = s.next + 0
      omega
  · rw [stepI_not ⟨fun e => hd (.inl e), fun e => hd (.inr e)⟩]
    show _ = s.next + 0
    rw [Int.add_zero]
    unfold stepS
    rw [if_neg hd]
    split
    · rfl
    · split
      · exact next_reply ..
      · split
        · rfl
        · split
          · rfl
          · split
            · exact next_rise ..
            · split
              · rfl
              · split <;> rfl
theorem stepI_lt {s : Nt} (h : Ok s) (o : Do) : ∀ z ∈ stepI s o, z = s.next ∧ z < 18446744073709551615 := by
  intro z hz
  unfold stepI at hz
  split at hz
  · rename_i hc
    rw [List.mem_singleton] at hz
    have h1 := addE_zero hc.2
    have h2 := h.n1
    omega
  · cases hz
theorem stepI_le (s : Nt) (o : Do) : (stepI s o).length ≤ 1 := by unfold stepI; split <;> simp
/-- IDs rise, each by 1, and the last of all is never told. -/
theorem rises (l : List Do) : ∀ (s : Nt), Ok s → (∀ o ∈ l, U64 o.i) → ∀ (i : Nat) (z : Int), (playI s l)[i]? = some z → z = s.next + i ∧ z < 18446744073709551615 := by
  induction l with
  | nil => intro s _ _ i z h; cases h
  | cons o l ih =>
    intro s h hl i z hz
    have h1 := step_next s o
    have h2 := stepI_le s o
    have h3 := ih (stepS s o) (h.step o (hl o (List.mem_cons_self ..))) fun p hp => hl p (List.mem_cons_of_mem _ hp)
    have hz2 : (stepI s o ++ playI (stepS s o) l)[i]? = some z := hz
    by_cases hi : i < (stepI s o).length
    · rw [List.getElem?_append_left hi] at hz2
      have := stepI_lt h o z (List.mem_of_getElem? hz2)
      have h0 : i = 0 := by omega
      subst h0
      exact ⟨by rw [this.1]; simp, this.2⟩
    · rw [List.getElem?_append_right (by omega)] at hz2
      have := h3 _ z hz2
      rw [h1] at this
      exact ⟨by omega, this.2⟩
theorem play_ids {s : Nt} {l : List Do} (h : Ok s) (hl : ∀ o ∈ l, U64 o.i) : ∀ z ∈ playI s l, U64 z := by
  intro z hz
  obtain ⟨i, hi⟩ := List.getElem?_of_mem hz
  have := rises l s h hl i z hi
  have := h.n0
  exact ⟨by omega, by omega⟩

theorem goneW_ended {x : En} (h : x.waits = false) (k : Int) : goneW k x = x := by unfold goneW; rw [if_neg (by rw [h]; simp)]
theorem tick_ended {x : En} (h : x.waits = false) : tick1 x = x := by unfold tick1; rw [if_neg (by rw [h]; simp)]
theorem mem_map_same {f : En → En} {L : List En} {x : En} (hx : x ∈ L) (h : f x = x) : x ∈ L.map f := List.mem_map.2 ⟨x, hx, h⟩
/-- how one ended stays, whatever is done but to take it out. -/
theorem ended_step {s : Nt} (h : Ok s) {x : En} (hx : x ∈ s.L) (hw : x.waits = false) {o : Do} (ho : o.d ≠ 9) : x ∈ (stepS s o).L := by
  unfold stepS
  split
  · unfold addS
    split
    · exact List.mem_append_left _ hx
    · exact hx
  · split
    · exact sendL_ended hx hw
    · split
      · unfold replyS
        split
        · rename_i he
          obtain ⟨_, ⟨y, hy, hst⟩, _, _⟩ := reply_ok he
          refine mem_map_same hx ?_
          show (if x.id = o.i then x.told o.k o.v else x) = x
          rw [if_neg]
          intro e
          have h1 := findI_some hy
          have h2 := findI_of h.up hx
          rw [e, hy] at h2
          have h3 : y = x := Option.some.inj h2
          rw [h3] at hst
          exact ((not_waits x).1 hw).2 hst
        · exact hx
      · split
        · refine mem_map_same hx ?_
          show (if x.ta = o.n then goneW 4 x else x) = x
          rw [goneW_ended hw]
          split <;> rfl
        · split
          · exact mem_map_same hx (tick_ended hw)
          · split
            · unfold riseS
              split
              · exact hx
              · exact mem_map_same hx (goneW_ended hw 7)
            · split
              · exact mem_map_same hx (goneW_ended hw 7)
              · exact hx
theorem ended_play {l : List Do} : ∀ {s : Nt}, Ok s → (∀ o ∈ l, U64 o.i ∧ o.d ≠ 9) → ∀ {x : En}, x ∈ s.L → x.waits = false → x ∈ (playS s l).L := by
  induction l with
  | nil => intro s _ _ x hx _; exact hx
  | cons o l ih =>
    intro s h hl x hx hw
    have h1 := hl o (List.mem_cons_self ..)
    exact ih (h.step o h1.1) (fun p hp => hl p (List.mem_cons_of_mem _ hp)) (ended_step h hx hw h1.2) hw
/-- one that was taken out is there no more, all others are. -/
theorem end_out {s : Nt} (h : Ok s) {x : En} (hx : x ∈ s.L) (hw : x.waits = false) : findI (endL s.L x.ta) x.id = none := by
  rw [findI_none]
  intro y hy e
  unfold endL at hy
  have h1 := List.mem_filter.1 hy
  have h2 := findI_of h.up h1.1
  rw [e, findI_of h.up hx] at h2
  have h3 : x = y := Option.some.inj h2
  subst h3
  have h4 := h1.2
  rw [hw] at h4
  simp at h4
theorem end_else {s : Nt} (h : Ok s) {x y : En} (hx : x ∈ s.L) (hy : y ∈ s.L) (hne : y.id ≠ x.id) : y ∈ endL s.L x.ta := by
  unfold endL
  refine List.mem_filter.2 ⟨hy, ?_⟩
  have h1 : y.ta ≠ x.ta := by
    intro e
    have : ∀ (L : List En), L.Pairwise (fun a b => a.ta ≠ b.ta) → x ∈ L → y ∈ L → x = y := by
      intro L
      induction L with
      | nil => intro _ h; cases h
      | cons z L ih =>
        intro hp h1 h2
        have hq := List.pairwise_cons.1 hp
        rcases List.mem_cons.1 h1 with e1 | h1
        · rcases List.mem_cons.1 h2 with e2 | h2
          · rw [e1, e2]
          · exact absurd (by rw [← e1, e]) (hq.1 y h2)
        · rcases List.mem_cons.1 h2 with e2 | h2
          · exact absurd (by rw [← e2, e]) (hq.1 x h1)
          · exact ih hq.2 h1 h2
    exact hne (by rw [this s.L h.one hx hy])
  simp [h1]

/-- none that waits has more than so many ticks left. -/
def Least (s : Nt) (n : Int) : Prop := ∀ x ∈ s.L, x.waits = true → x.le ≤ n
theorem least_wait {s : Nt} (h : Ok s) : Least s s.wait := fun x hx _ => (h.all x hx).l1
theorem least_map {s : Nt} {n : Int} {f : En → En} (h : Least s n) (hf : ∀ x, (f x).waits = true → x.waits = true ∧ (f x).le = x.le) : ∀ x ∈ s.L.map f, x.waits = true → x.le ≤ n := by
  intro x hx hw
  obtain ⟨y, hy, rfl⟩ := List.mem_map.1 hx
  rw [(hf y hw).2]
  exact h y hy (hf y hw).1
theorem goneW_waits (k : Int) (x : En) (h : (goneW k x).waits = true) : x.waits = true ∧ (goneW k x).le = x.le := by
  unfold goneW at h ⊢
  split at h
  · cases h
  · rename_i h1
    rw [h] at h1
    exact absurd rfl h1
theorem least_step {s : Nt} {n : Int} (h : Least s n) {o : Do} (hd : 1 < o.d) (h6 : o.d ≠ 6) : Least (stepS s o) n := by
  unfold stepS
  rw [if_neg (by omega)]
  split
  · intro x hx hw
    rcases sendL_map x hx with h1 | ⟨y, h1, h2, rfl⟩
    · exact h x h1 hw
    · exact h y h1 ((waits_iff y).2 (.inl h2))
  · split
    · unfold replyS
      split
      · refine least_map h fun x hx => ?_
        replace hx : (if x.id = o.i then x.told o.k o.v else x).waits = true := hx
        show _ ∧ (if x.id = o.i then x.told o.k o.v else x).le = x.le
        split at hx
        · cases hx
        · rename_i hq
          rw [if_neg hq]
          exact ⟨hx, rfl⟩
      · exact h
    · split
      · refine least_map h fun x hx => ?_
        replace hx : (if x.ta = o.n then goneW 4 x else x).waits = true := hx
        show _ ∧ (if x.ta = o.n then goneW 4 x else x).le = x.le
        split at hx
        · rename_i hq
          rw [if_pos hq]
          exact goneW_waits 4 x hx
        · rename_i hq
          rw [if_neg hq]
          exact ⟨hx, rfl⟩
      · split
        · unfold riseS
          split
          · exact h
          · exact least_map h (goneW_waits 7)
        · split
          · exact least_map h (goneW_waits 7)
          · split
            · exact fun x hx hw => h x (List.mem_filter.1 hx).1 hw
            · exact h
theorem least_tick {s : Nt} {n : Int} (h : Least s n) : Least (tickS s) (n - 1) := by
  intro x hx hw
  obtain ⟨y, hy, rfl⟩ := List.mem_map.1 hx
  unfold tick1 at hw ⊢
  by_cases h1 : y.waits = true
  · rw [if_pos h1] at hw ⊢
    split at hw
    · cases hw
    · rename_i h2
      rw [if_neg h2]
      have := h y hy h1
      show y.le - 1 ≤ n - 1
      omega
  · rw [if_neg h1] at hw
    exact absurd hw h1
theorem wait_step (s : Nt) (o : Do) : (stepS s o).wait = s.wait := by
  unfold stepS addS replyS riseS
  split
  · split <;> rfl
  · split
    · rfl
    · split
      · split <;> rfl
      · split
        · rfl
        · split
          · rfl
          · split
            · split <;> rfl
            · split
              · rfl
              · split <;> rfl
theorem wait_play (l : List Do) : ∀ s : Nt, (playS s l).wait = s.wait := by
  induction l with
  | nil => intro s; rfl
  | cons o l ih => intro s; exact (ih _).trans (wait_step s o)
/-- where none has a tick left, none waits, and each has its end. -/
theorem least_zero {s : Nt} (h : Ok s) (hl : Least s 0) {x : En} (hx : x ∈ s.L) : x.waits = false ∧ x.kd ≠ 0 := by
  have h1 : x.waits = false := by
    cases hw : x.waits with
    | false => rfl
    | true =>
      have h2 := hl x hx hw
      have h3 := (h.all x hx).l0 hw
      omega
  exact ⟨h1, (h.all x hx).k0 h1⟩

/-- behind a new epoch what waited is gone. -/
theorem rise_gone {s : Nt} {ep : Int} (h : ¬ ep ≤ s.ep) {id : Int} {x : En} (hx : findI s.L id = some x) (hw : x.waits = true) : findI (riseS s ep).L id = some (x.gone 7) := by
  unfold riseS
  rw [if_neg h]
  show findI (s.L.map (goneW 7)) id = _
  rw [findI_map (keeps_goneW 7), hx]
  show some (goneW 7 x) = _
  unfold goneW
  rw [if_pos hw]
theorem reply_old {s : Nt} {ep id k v : Int} (h : ep ≠ s.ep) : replyE s ep id k = 22 ∧ replyS s ep id k v = s := by
  have h1 : replyE s ep id k = 22 := if_pos h
  refine ⟨h1, ?_⟩
  unfold replyS
  rw [if_neg (by rw [h1]; omega)]
theorem reply_state {s : Nt} {id k v : Int} {x : En} (hx : findI s.L id = some x) (hs : x.st ≠ 2) : replyE s s.ep id k = 18 ∧ replyS s s.ep id k v = s := by
  have h1 : replyE s s.ep id k = 18 := by
    unfold replyE
    rw [if_neg (fun e => e rfl), hx]
    show (if x.st ≠ 2 then (18 : Int) else _) = 18
    rw [if_pos hs]
  refine ⟨h1, ?_⟩
  unfold replyS
  rw [if_neg (by rw [h1]; omega)]

end Go.Proofs.Ytlckconhhhllkaa
