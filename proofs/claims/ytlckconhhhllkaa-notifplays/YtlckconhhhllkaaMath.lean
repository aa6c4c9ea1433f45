/-
  Notifications in plain words: a table as a list by rising IDs, and what each call makes of it.
-/
import Derived.WalkKit
namespace Go.Proofs.Ytlckconhhhllkaa

def U64 (z : Int) : Prop := 0 ≤ z ∧ z < 18446744073709551616
/-- a notification: its ID, its task, its state, the ticks that it has left, how it ended. -/
structure En where
  id : Int
  ta : Int
  st : Int
  le : Int
  kd : Int
  vl : Int
/-- none. -/
def En.zero : En := ⟨0, 0, 0, 0, 0, 0⟩
theorem En.eq {x y : En} (h1 : x.id = y.id) (h2 : x.ta = y.ta) (h3 : x.st = y.st) (h4 : x.le = y.le) (h5 : x.kd = y.kd) (h6 : x.vl = y.vl) : x = y := by
  obtain ⟨a, b, c, d, e, f⟩ := x
  obtain ⟨a', b', c', d', e', f'⟩ := y
  simp only at h1 h2 h3 h4 h5 h6
  subst h1 h2 h3 h4 h5 h6
  rfl
def En.waits (x : En) : Bool := x.st == 1 || x.st == 2
def En.sent (x : En) : En := { x with st := 2 }
def En.gone (x : En) (k : Int) : En := { x with st := 4, kd := k, vl := 0 }
def En.told (x : En) (k v : Int) : En := { x with st := 3, kd := k, vl := v }
def En.less (x : En) : En := { x with le := x.le - 1 }
/-- one that waits has ended. -/
def goneW (k : Int) (x : En) : En := if x.waits then x.gone k else x
/-- a tick. -/
def tick1 (x : En) : En := if x.waits then (if x.less.le = 0 then x.less.gone 6 else x.less) else x
def late1 (x : En) : Bool := x.waits && x.less.le == 0

/-- a table. -/
structure Nt where
  size : Int
  wait : Int
  next : Int
  ep : Int
  L : List En

def hasTask (L : List En) (t : Int) : Bool := L.any fun x => x.ta == t
def addE (s : Nt) (t : Int) : Int := if t < 1 ∨ 4 < t then 1 else if hasTask s.L t = true then 21 else if s.size ≤ s.L.length ∨ s.next = 18446744073709551615 then 16 else 0
def addI (s : Nt) (t : Int) : Int := if addE s t = 0 then s.next else 0
def addS (s : Nt) (t : Int) : Nt := if addE s t = 0 then { s with next := s.next + 1, L := s.L ++ [⟨s.next, t, 1, s.wait, 0, 0⟩] } else s
def sendO : List En → Option En
  | [] => none
  | x :: L => if x.st = 1 then some x.sent else sendO L
def sendL : List En → List En
  | [] => []
  | x :: L => if x.st = 1 then x.sent :: L else x :: sendL L
def sendS (s : Nt) : Nt := { s with L := sendL s.L }
def findI : List En → Int → Option En
  | [], _ => none
  | x :: L, z => if x.id = z then some x else findI L z
def putI (L : List En) (y : En) : List En := L.map fun x => if x.id = y.id then y else x
def replyE (s : Nt) (ep id k : Int) : Int := if ep ≠ s.ep then 22 else match findI s.L id with
  | none => 17
  | some x => if x.st ≠ 2 then 18 else if k < 1 ∨ 3 < k then 1 else 0
def replyS (s : Nt) (ep id k v : Int) : Nt := if replyE s ep id k = 0 then { s with L := s.L.map fun x => if x.id = id then x.told k v else x } else s
def killB (s : Nt) (t : Int) : Bool := s.L.any fun x => x.ta == t && x.waits
def killS (s : Nt) (t : Int) : Nt := { s with L := s.L.map fun x => if x.ta = t then goneW 4 x else x }
def tickS (s : Nt) : Nt := { s with L := s.L.map tick1 }
def tickO (s : Nt) : List Int := (s.L.filter late1).map (·.id)
def dropS (s : Nt) : Nt := { s with L := s.L.map (goneW 7) }
def riseE (s : Nt) (ep : Int) : Int := if ep ≤ s.ep then 22 else 0
def riseS (s : Nt) (ep : Int) : Nt := if ep ≤ s.ep then s else { dropS s with ep := ep }
def endO : List En → Int → Option En
  | [], _ => none
  | x :: L, t => if x.ta = t ∧ x.waits = false then some x else endO L t
def endL (L : List En) (t : Int) : List En := L.filter fun x => !(x.ta == t && !x.waits)
def endS (s : Nt) (t : Int) : Nt := { s with L := endL s.L t }
def valid (s : Nt) (id : Int) : Bool := match findI s.L id with
  | none => false
  | some x => x.st == 2

/-- one that may be. -/
structure OkE (s : Nt) (x : En) : Prop where
  i0 : 0 ≤ x.id
  i1 : x.id < s.next
  t0 : 1 ≤ x.ta
  t1 : x.ta ≤ 4
  s0 : 1 ≤ x.st
  s1 : x.st ≤ 4
  l1 : x.le ≤ s.wait
  l0 : x.waits = true → 1 ≤ x.le
  k0 : x.waits = false → x.kd ≠ 0
  v0 : x.waits = true → x.kd = 0 ∧ x.vl = 0
/-- a table that may be. -/
structure Ok (s : Nt) : Prop where
  z0 : 1 ≤ s.size
  z1 : s.size ≤ 8
  w0 : 1 ≤ s.wait
  w1 : s.wait ≤ 1000
  n0 : 0 ≤ s.next
  n1 : s.next ≤ 18446744073709551615
  e0 : U64 s.ep
  all : ∀ x ∈ s.L, OkE s x
  up : s.L.Pairwise fun x y => x.id < y.id
  one : s.L.Pairwise fun x y => x.ta ≠ y.ta
  len : (s.L.length : Int) ≤ s.size

theorem waits_gone (x : En) (k : Int) : (x.gone k).waits = false := rfl
theorem waits_told (x : En) (k v : Int) : (x.told k v).waits = false := rfl
theorem waits_iff (x : En) : x.waits = true ↔ x.st = 1 ∨ x.st = 2 := by unfold En.waits; simp
theorem not_waits (x : En) : x.waits = false ↔ x.st ≠ 1 ∧ x.st ≠ 2 := by unfold En.waits; simp
/-- what keeps ID and task. -/
def Keeps (f : En → En) : Prop := ∀ x, (f x).id = x.id ∧ (f x).ta = x.ta
theorem keeps_goneW (k : Int) : Keeps (goneW k) := fun x => by unfold goneW En.gone; split <;> exact ⟨rfl, rfl⟩
theorem keeps_tick : Keeps tick1 := fun x => by
  unfold tick1 En.less En.gone
  split
  · split <;> exact ⟨rfl, rfl⟩
  · exact ⟨rfl, rfl⟩
theorem keeps_if {f : En → En} (p : En → Prop) [DecidablePred p] (h : Keeps f) : Keeps fun x => if p x then f x else x := fun x => by
  show (if p x then f x else x).id = x.id ∧ (if p x then f x else x).ta = x.ta
  split
  · exact h x
  · exact ⟨rfl, rfl⟩
theorem keeps_told (k v : Int) : Keeps fun x => x.told k v := fun _ => ⟨rfl, rfl⟩
theorem up_map {f : En → En} (hf : Keeps f) {L : List En} (h : L.Pairwise fun x y => x.id < y.id) : (L.map f).Pairwise fun x y => x.id < y.id := by
  rw [List.pairwise_map]
  exact h.imp fun hxy => by rw [(hf _).1, (hf _).1]; exact hxy
theorem one_map {f : En → En} (hf : Keeps f) {L : List En} (h : L.Pairwise fun x y => x.ta ≠ y.ta) : (L.map f).Pairwise fun x y => x.ta ≠ y.ta := by
  rw [List.pairwise_map]
  exact h.imp fun hxy => by rw [(hf _).2, (hf _).2]; exact hxy

theorem findI_some {L : List En} {z : Int} {x : En} (h : findI L z = some x) : x ∈ L ∧ x.id = z := by
  induction L with
  | nil => cases h
  | cons y L ih =>
    unfold findI at h
    split at h
    · cases h
      exact ⟨List.mem_cons_self .., by assumption⟩
    · exact ⟨List.mem_cons_of_mem _ (ih h).1, (ih h).2⟩
theorem findI_none {L : List En} {z : Int} : findI L z = none ↔ ∀ x ∈ L, x.id ≠ z := by
  induction L with
  | nil => exact ⟨fun _ x hx => (by cases hx), fun _ => rfl⟩
  | cons y L ih =>
    unfold findI
    split
    · rename_i e
      exact ⟨fun h => (by cases h), fun h => absurd e (h y (List.mem_cons_self ..))⟩
    · rename_i e
      rw [ih]
      exact ⟨fun h x hx => (List.mem_cons.1 hx).elim (fun e2 => by rw [e2]; exact e) (h x), fun h x hx => h x (List.mem_cons_of_mem _ hx)⟩
theorem findI_of {L : List En} (h : L.Pairwise fun x y => x.id < y.id) {x : En} (hx : x ∈ L) : findI L x.id = some x := by
  induction L with
  | nil => cases hx
  | cons y L ih =>
    have hp := List.pairwise_cons.1 h
    unfold findI
    rcases List.mem_cons.1 hx with rfl | hx
    · rw [if_pos rfl]
    · rw [if_neg (by have := hp.1 x hx; omega)]
      exact ih hp.2 hx
theorem findI_map {f : En → En} (hf : Keeps f) (L : List En) (z : Int) : findI (L.map f) z = (findI L z).map f := by
  induction L with
  | nil => rfl
  | cons y L ih =>
    rw [List.map_cons]
    unfold findI
    rw [(hf y).1]
    split
    · rfl
    · exact ih
theorem hasTask_iff {L : List En} {t : Int} : hasTask L t = true ↔ ∃ x ∈ L, x.ta = t := by
  unfold hasTask
  rw [List.any_eq_true]
  exact ⟨fun ⟨x, h1, h2⟩ => ⟨x, h1, by simpa using h2⟩, fun ⟨x, h1, h2⟩ => ⟨x, h1, by simpa using h2⟩⟩
theorem endO_some {L : List En} {t : Int} {x : En} (h : endO L t = some x) : x ∈ L ∧ x.ta = t ∧ x.waits = false := by
  induction L with
  | nil => cases h
  | cons y L ih =>
    unfold endO at h
    split at h
    · rename_i e
      cases h
      exact ⟨List.mem_cons_self .., e.1, e.2⟩
    · exact ⟨List.mem_cons_of_mem _ (ih h).1, (ih h).2⟩
theorem endO_of {L : List En} (h : L.Pairwise fun x y => x.ta ≠ y.ta) {x : En} (hx : x ∈ L) (hw : x.waits = false) : endO L x.ta = some x := by
  induction L with
  | nil => cases hx
  | cons y L ih =>
    have hp := List.pairwise_cons.1 h
    unfold endO
    rcases List.mem_cons.1 hx with rfl | hx
    · rw [if_pos ⟨rfl, hw⟩]
    · rw [if_neg fun e => hp.1 x hx e.1]
      exact ih hp.2 hx
theorem sendL_map {L : List En} : ∀ y ∈ sendL L, y ∈ L ∨ ∃ x ∈ L, x.st = 1 ∧ y = x.sent := by
  induction L with
  | nil => intro y h; cases h
  | cons x L ih =>
    intro y h
    unfold sendL at h
    split at h
    · rename_i e
      rcases List.mem_cons.1 h with rfl | h
      · exact .inr ⟨x, List.mem_cons_self .., e, rfl⟩
      · exact .inl (List.mem_cons_of_mem _ h)
    · rcases List.mem_cons.1 h with rfl | h
      · exact .inl (List.mem_cons_self ..)
      · rcases ih y h with h | ⟨z, h1, h2⟩
        · exact .inl (List.mem_cons_of_mem _ h)
        · exact .inr ⟨z, List.mem_cons_of_mem _ h1, h2⟩
theorem sendL_len (L : List En) : (sendL L).length = L.length := by
  induction L with
  | nil => rfl
  | cons x L ih =>
    unfold sendL
    split
    · rfl
    · rw [List.length_cons, List.length_cons, ih]
theorem sendL_pw {R : En → En → Prop} (hR : ∀ x y, (R x.sent y ↔ R x y) ∧ (R y x.sent ↔ R y x)) {L : List En} (h : L.Pairwise R) : (sendL L).Pairwise R := by
  induction L with
  | nil => exact h
  | cons x L ih =>
    have hp := List.pairwise_cons.1 h
    unfold sendL
    split
    · exact List.pairwise_cons.2 ⟨fun y hy => (hR x y).1.2 (hp.1 y hy), hp.2⟩
    · refine List.pairwise_cons.2 ⟨fun y hy => ?_, ih hp.2⟩
      rcases sendL_map y hy with h1 | ⟨z, h1, _, rfl⟩
      · exact hp.1 y h1
      · exact (hR z x).2.2 (hp.1 z h1)
/-- those that ended stay where they are. -/
theorem sendL_ended {L : List En} {x : En} (hx : x ∈ L) (hw : x.waits = false) : x ∈ sendL L := by
  induction L with
  | nil => cases hx
  | cons y L ih =>
    unfold sendL
    rcases List.mem_cons.1 hx with rfl | hx
    · rw [if_neg ((not_waits x).1 hw).1]
      exact List.mem_cons_self ..
    · split
      · exact List.mem_cons_of_mem _ hx
      · exact List.mem_cons_of_mem _ (ih hx)

section
variable {s : Nt} {x : En}
theorem OkE.of (h : OkE s x) {s' : Nt} (hn : s.next ≤ s'.next) (hw : s'.wait = s.wait) : OkE s' x :=
  ⟨h.i0, Int.lt_of_lt_of_le h.i1 hn, h.t0, h.t1, h.s0, h.s1, by rw [hw]; exact h.l1, h.l0, h.k0, h.v0⟩
theorem OkE.gone (h : OkE s x) {k : Int} (hk : k ≠ 0) : OkE s (x.gone k) :=
  ⟨h.i0, h.i1, h.t0, h.t1, by show (1 : Int) ≤ 4; omega, by show (4 : Int) ≤ 4; omega, h.l1, fun e => (by cases e), fun _ => hk, fun e => (by cases e)⟩
theorem OkE.goneW (h : OkE s x) {k : Int} (hk : k ≠ 0) : OkE s (goneW k x) := by
  unfold Proofs.Ytlckconhhhllkaa.goneW
  split
  · exact h.gone hk
  · exact h
theorem OkE.told (h : OkE s x) {k v : Int} (hk : k ≠ 0) : OkE s (x.told k v) :=
  ⟨h.i0, h.i1, h.t0, h.t1, by show (1 : Int) ≤ 3; omega, by show (3 : Int) ≤ 4; omega, h.l1, fun e => (by cases e), fun _ => hk, fun e => (by cases e)⟩
theorem OkE.sent (h : OkE s x) (hs : x.st = 1) : OkE s x.sent := by
  have hw : x.waits = true := (waits_iff x).2 (.inl hs)
  exact ⟨h.i0, h.i1, h.t0, h.t1, by show (1 : Int) ≤ 2; omega, by show (2 : Int) ≤ 4; omega, h.l1, fun _ => h.l0 hw, fun e => (by cases e), fun _ => h.v0 hw⟩
theorem OkE.tick (h : OkE s x) : OkE s (tick1 x) := by
  unfold tick1
  split
  · rename_i hw
    have hl := h.l0 hw
    have hl1 := h.l1
    split
    · rename_i h0
      exact ⟨h.i0, h.i1, h.t0, h.t1, by show (1 : Int) ≤ 4; omega, by show (4 : Int) ≤ 4; omega, by show x.le - 1 ≤ s.wait; omega, fun e => (by cases e), fun _ => (by show (6 : Int) ≠ 0; omega), fun e => (by cases e)⟩
    · rename_i h0
      have h1 : x.le - 1 ≠ 0 := h0
      exact ⟨h.i0, h.i1, h.t0, h.t1, h.s0, h.s1, by show x.le - 1 ≤ s.wait; omega, fun _ => (by show 1 ≤ x.le - 1; omega), fun e => (by have e2 : x.waits = false := e; rw [hw] at e2; cases e2), fun _ => h.v0 hw⟩
  · exact h
theorem Ok.map {f : En → En} (h : Ok s) (hf : Keeps f) (ha : ∀ x ∈ s.L, OkE s (f x)) : Ok { s with L := s.L.map f } := by
  refine ⟨h.z0, h.z1, h.w0, h.w1, h.n0, h.n1, h.e0, fun x hx => ?_, up_map hf h.up, one_map hf h.one, by show ((s.L.map f).length : Int) ≤ _; rw [List.length_map]; exact h.len⟩
  obtain ⟨y, hy, rfl⟩ := List.mem_map.1 hx
  exact (ha y hy).of (Int.le_refl _) rfl
theorem Ok.add (h : Ok s) (t : Int) : Ok (addS s t) := by
  unfold addS
  split
  · rename_i he
    unfold addE at he
    split at he
    · cases he
    · rename_i ht
      split at he
      · cases he
      · rename_i hh
        split at he
        · cases he
        · rename_i hz
          have ht' : 1 ≤ t ∧ t ≤ 4 := by omega
          have hz' : (s.L.length : Int) < s.size ∧ s.next ≠ 18446744073709551615 := ⟨by omega, fun e => hz (.inr e)⟩
          have hn := h.n0
          have hn1 := h.n1
          refine ⟨h.z0, h.z1, h.w0, h.w1, by show 0 ≤ s.next + 1; omega, by show s.next + 1 ≤ _; omega, h.e0, fun x hx => ?_, List.pairwise_append.2 ⟨h.up, List.pairwise_singleton _ _, fun a ha b hb => ?_⟩, List.pairwise_append.2 ⟨h.one, List.pairwise_singleton _ _, fun a ha b hb => ?_⟩, ?_⟩
          · rcases List.mem_append.1 hx with hx | hx
            · exact (h.all x hx).of (by show s.next ≤ s.next + 1; omega) rfl
            · rw [List.mem_singleton] at hx
              subst hx
              have := h.w0
              exact ⟨hn, by show s.next < s.next + 1; omega, ht'.1, ht'.2, by show (1 : Int) ≤ 1; omega, by show (1 : Int) ≤ 4; omega, Int.le_refl _, fun _ => h.w0, fun e => (by cases e), fun _ => ⟨rfl, rfl⟩⟩
          · rw [List.mem_singleton] at hb
            subst hb
            exact (h.all a ha).i1
          · rw [List.mem_singleton] at hb
            subst hb
            exact fun e => hh (hasTask_iff.2 ⟨a, ha, e⟩)
          · show ((s.L ++ [_]).length : Int) ≤ s.size
            rw [List.length_append]
            show ((s.L.length + 1 : Nat) : Int) ≤ s.size
            omega
  · exact h
theorem Ok.send (h : Ok s) : Ok (sendS s) := by
  refine ⟨h.z0, h.z1, h.w0, h.w1, h.n0, h.n1, h.e0, fun x hx => ?_, sendL_pw (fun x y => ⟨Iff.rfl, Iff.rfl⟩) h.up, sendL_pw (fun x y => ⟨Iff.rfl, Iff.rfl⟩) h.one, by show ((sendL s.L).length : Int) ≤ _; rw [sendL_len]; exact h.len⟩
  rcases sendL_map x hx with h1 | ⟨y, h1, h2, rfl⟩
  · exact (h.all x h1).of (Int.le_refl _) rfl
  · exact ((h.all y h1).sent h2).of (Int.le_refl _) rfl
theorem reply_ok {ep id k : Int} (he : replyE s ep id k = 0) : ep = s.ep ∧ (∃ x, findI s.L id = some x ∧ x.st = 2) ∧ 1 ≤ k ∧ k ≤ 3 := by
  unfold replyE at he
  split at he
  · cases he
  · rename_i h1
    split at he
    · cases he
    · rename_i x hx
      split at he
      · cases he
      · rename_i h2
        split at he
        · cases he
        · rename_i h3
          exact ⟨by omega, ⟨x, hx, by omega⟩, by omega, by omega⟩
theorem Ok.reply (h : Ok s) (ep id k v : Int) : Ok (replyS s ep id k v) := by
  unfold replyS
  split
  · rename_i he
    obtain ⟨_, _, h3, _⟩ := reply_ok he
    refine h.map (keeps_if (fun x => x.id = id) (keeps_told k v)) fun x hx => ?_
    show OkE s (if x.id = id then x.told k v else x)
    split
    · exact (h.all x hx).told (by omega)
    · exact h.all x hx
  · exact h
theorem Ok.kill (h : Ok s) (t : Int) : Ok (killS s t) := h.map (keeps_if (fun x => x.ta = t) (keeps_goneW 4)) fun x hx => by
  show OkE s (if x.ta = t then goneW 4 x else x)
  split
  · exact (h.all x hx).goneW (by omega)
  · exact h.all x hx
theorem Ok.tick (h : Ok s) : Ok (tickS s) := h.map keeps_tick fun x hx => (h.all x hx).tick
theorem Ok.drop (h : Ok s) : Ok (dropS s) := h.map (keeps_goneW 7) fun x hx => (h.all x hx).goneW (by omega)
theorem Ok.rise (h : Ok s) {ep : Int} (he : U64 ep) : Ok (riseS s ep) := by
  unfold riseS
  split
  · exact h
  · have := h.drop
    exact ⟨this.z0, this.z1, this.w0, this.w1, this.n0, this.n1, he, fun x hx => (this.all x hx).of (Int.le_refl _) rfl, this.up, this.one, this.len⟩
theorem Ok.end' (h : Ok s) (t : Int) : Ok (endS s t) := by
  refine ⟨h.z0, h.z1, h.w0, h.w1, h.n0, h.n1, h.e0, fun x hx => (h.all x (List.mem_filter.1 hx).1).of (Int.le_refl _) rfl, h.up.filter _, h.one.filter _, ?_⟩
  have h1 : (endL s.L t).length ≤ s.L.length := List.length_filter_le _ _
  have h2 := h.len
  show ((endL s.L t).length : Int) ≤ s.size
  omega
end

/-- a table that was just begun. -/
def newS (size wait first : Int) : Nt := ⟨size, wait, first, 0, []⟩
def newE (size wait : Int) : Bool := decide (size < 1 ∨ 8 < size ∨ wait < 1 ∨ 1000 < wait)
theorem Ok.new {size wait first : Int} (h1 : newE size wait = false) (h2 : U64 first) : Ok (newS size wait first) := by
  unfold newE at h1
  have h1 := of_decide_eq_false h1
  obtain ⟨h3, h4⟩ := h2
  exact ⟨by show 1 ≤ size; omega, by show size ≤ 8; omega, by show 1 ≤ wait; omega, by show wait ≤ 1000; omega, h3, by show first ≤ _; omega, ⟨Int.le_refl _, by show (0 : Int) < _; omega⟩, fun x hx => (by cases hx), List.Pairwise.nil, List.Pairwise.nil, by show (0 : Int) ≤ size; omega⟩

/-- a call of the laws'. -/
structure Do where
  d : Int
  n : Int
  i : Int
  k : Int
  v : Int
def toU (n : Int) : Int := IntKind.u64.wrap n
theorem toU_ok (n : Int) : U64 (toU n) := by
  unfold toU U64
  have h : IntKind.u64.wrap n = n % 18446744073709551616 := by simp [IntKind.wrap, IntKind.signed, IntKind.bits]
  rw [h]
  omega
/-- what a call leaves, and what it tells. -/
def stepS (s : Nt) (o : Do) : Nt :=
  if o.d = 0 ∨ o.d = 1 then addS s o.n else if o.d = 2 ∨ o.d = 3 then sendS s else if o.d = 4 then replyS s (toU o.n) o.i o.k o.v else if o.d = 5 then killS s o.n
  else if o.d = 6 then tickS s else if o.d = 7 then riseS s o.i else if o.d = 8 then dropS s else if o.d = 9 then endS s o.n else s
def stepI (s : Nt) (o : Do) : List Int := if (o.d = 0 ∨ o.d = 1) ∧ addE s o.n = 0 then [s.next] else []
def playS (s : Nt) : List Do → Nt
  | [] => s
  | o :: l => playS (stepS s o) l
def playI (s : Nt) : List Do → List Int
  | [] => []
  | o :: l => stepI s o ++ playI (stepS s o) l
theorem Ok.step {s : Nt} (h : Ok s) (o : Do) (ho : U64 o.i) : Ok (stepS s o) := by
  unfold stepS
  split
  · exact h.add _
  · split
    · exact h.send
    · split
      · exact h.reply _ _ _ _
      · split
        · exact h.kill _
        · split
          · exact h.tick
          · split
            · exact h.rise ho
            · split
              · exact h.drop
              · split
                · exact h.end' _
                · exact h
theorem Ok.play {s : Nt} (h : Ok s) (l : List Do) (hl : ∀ o ∈ l, U64 o.i) : Ok (playS s l) := by
  induction l generalizing s with
  | nil => exact h
  | cons o l ih => exact ih (h.step o (hl o (List.mem_cons_self ..))) fun p hp => hl p (List.mem_cons_of_mem _ hp)
theorem playS_app (s : Nt) (l m : List Do) : playS s (l ++ m) = playS (playS s l) m := by
  induction l generalizing s with
  | nil => rfl
  | cons o l ih => exact ih _
theorem playI_app (s : Nt) (l m : List Do) : playI s (l ++ m) = playI s l ++ playI (playS s l) m := by
  induction l generalizing s with
  | nil => rfl
  | cons o l ih =>
    show stepI s o ++ playI (stepS s o) (l ++ m) = (stepI s o ++ playI (stepS s o) l) ++ _
    rw [ih, List.append_assoc]
    rfl
theorem playI_len (s : Nt) (l : List Do) : (playI s l).length ≤ l.length := by
  induction l generalizing s with
  | nil => exact Nat.le_refl _
  | cons o l ih =>
    have h1 : (stepI s o).length ≤ 1 := by unfold stepI; split <;> simp
    have h2 := ih (stepS s o)
    show (stepI s o ++ _).length ≤ l.length + 1
    rw [List.length_append]
    omega

section
variable {s : Nt} {o : Do}
theorem step_add (h : o.d = 0 ∨ o.d = 1) : stepS s o = addS s o.n := if_pos h
theorem step_send (h : o.d = 2 ∨ o.d = 3) : stepS s o = sendS s := by
  unfold stepS
  rw [if_neg (by omega), if_pos h]
theorem step_reply (h : o.d = 4) : stepS s o = replyS s (toU o.n) o.i o.k o.v := by
  unfold stepS
  rw [if_neg (by omega), if_neg (by omega), if_pos h]
theorem step_kill (h : o.d = 5) : stepS s o = killS s o.n := by
  unfold stepS
  rw [if_neg (by omega), if_neg (by omega), if_neg (by omega), if_pos h]
theorem step_tick (h : o.d = 6) : stepS s o = tickS s := by
  unfold stepS
  rw [if_neg (by omega), if_neg (by omega), if_neg (by omega), if_neg (by omega), if_pos h]
theorem step_rise (h : o.d = 7) : stepS s o = riseS s o.i := by
  unfold stepS
  rw [if_neg (by omega), if_neg (by omega), if_neg (by omega), if_neg (by omega), if_neg (by omega), if_pos h]
theorem step_drop (h : o.d = 8) : stepS s o = dropS s := by
  unfold stepS
  rw [if_neg (by omega), if_neg (by omega), if_neg (by omega), if_neg (by omega), if_neg (by omega), if_neg (by omega), if_pos h]
theorem step_end (h : o.d = 9) : stepS s o = endS s o.n := by
  unfold stepS
  rw [if_neg (by omega), if_neg (by omega), if_neg (by omega), if_neg (by omega), if_neg (by omega), if_neg (by omega), if_neg (by omega), if_pos h]
theorem step_none (h : ∀ k : Int, 0 ≤ k → k ≤ 9 → o.d ≠ k) : stepS s o = s := by
  have h0 := h 0 (by omega) (by omega)
  have h1 := h 1 (by omega) (by omega)
  have h2 := h 2 (by omega) (by omega)
  have h3 := h 3 (by omega) (by omega)
  have h4 := h 4 (by omega) (by omega)
  have h5 := h 5 (by omega) (by omega)
  have h6 := h 6 (by omega) (by omega)
  have h7 := h 7 (by omega) (by omega)
  have h8 := h 8 (by omega) (by omega)
  have h9 := h 9 (by omega) (by omega)
  unfold stepS
  rw [if_neg (by omega), if_neg (by omega), if_neg (by omega), if_neg (by omega), if_neg (by omega), if_neg (by omega), if_neg (by omega), if_neg (by omega)]
theorem stepI_not (h : o.d ≠ 0 ∧ o.d ≠ 1) : stepI s o = [] := if_neg fun e => by rcases e.1 with e | e <;> omega
theorem stepI_add (h : o.d = 0 ∨ o.d = 1) (he : addE s o.n = 0) : stepI s o = [s.next] := if_pos ⟨h, he⟩
theorem stepI_err (he : addE s o.n ≠ 0) : stepI s o = [] := if_neg fun e => he e.2
end
theorem play_take {s : Nt} {l : List Do} {i : Nat} (h : i < l.length) : playS s (l.take (i + 1)) = stepS (playS s (l.take i)) l[i] ∧ playI s (l.take (i + 1)) = playI s (l.take i) ++ stepI (playS s (l.take i)) l[i] := by
  rw [List.take_succ_eq_append_getElem h, playS_app, playI_app]
  refine ⟨rfl, ?_⟩
  show _ ++ (stepI _ _ ++ []) = _
  rw [List.append_nil]

end Go.Proofs.Ytlckconhhhllkaa
