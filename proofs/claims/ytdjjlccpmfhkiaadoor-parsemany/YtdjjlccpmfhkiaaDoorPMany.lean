/-
  Texts of many rules, names and conditions: what comes of them.
-/
import Derived.Test.YtdjjlccpmfhkiaaDoorPWide
namespace Go.Proofs.YtdjjlccpmfhkiaaDoor
open Go

theorem runs_app {s s' : St} : ∀ (a b : List Tok), runs s a = .ok s' → runs s (a ++ b) = runs s' b := by
  intro a
  induction a generalizing s with
  | nil => intro b h; cases h; rfl
  | cons x a ih =>
    intro b h
    unfold runs at h
    split at h
    · cases h
    · next h4 =>
      split at h
      · cases h
      · next sx hs =>
        rw [List.cons_append]
        conv => lhs; unfold runs
        rw [if_neg h4, hs]
        exact ih b h
theorem runs_bad {s : St} {e : Nat × Nat} : ∀ (a b : List Tok), runs s a = .error e → runs s (a ++ b) = .error e := by
  intro a
  induction a generalizing s with
  | nil => intro b h; cases h
  | cons x a ih =>
    intro b h
    unfold runs at h
    rw [List.cons_append]
    unfold runs
    split at h
    · next h4 => rw [if_pos h4]; exact h
    · next h4 =>
      rw [if_neg h4]
      split at h
      · exact h
      · exact ih b h

theorem runs_one {s s' : St} {x : Tok} {r : List Tok} (h4 : ¬ x.k = 4) (h : step s x = .ok s') : runs s (x :: r) = runs s' r := by
  conv => lhs; unfold runs
  rw [if_neg h4, h]
theorem runs_no {s : St} {x : Tok} {r : List Tok} {c : Nat} (h4 : ¬ x.k = 4) (h : step s x = .error c) : runs s (x :: r) = .error (c, x.at') := by
  unfold runs
  rw [if_neg h4, h]

theorem runs_kv : ∀ (ts us : List Tok) (s : St), ts.map kv = us.map kv → (∃ v, runs s ts = .ok v ∧ runs s us = .ok v) ∨ ∃ c p q, runs s ts = .error (c, p) ∧ runs s us = .error (c, q) := by
  intro ts
  induction ts with
  | nil =>
    intro us s h
    cases us with
    | nil => exact .inl ⟨s, rfl, rfl⟩
    | cons y u => simp at h
  | cons x t ih =>
    intro us s h
    cases us with
    | nil => simp at h
    | cons y u =>
      simp only [List.map_cons, List.cons.injEq] at h
      have hk : x.k = y.k := by have := congrArg Prod.fst h.1; exact this
      have hs := step_kv (s := s) h.1
      by_cases h4 : x.k = 4
      · refine .inr ⟨7, x.at', y.at', ?_, ?_⟩
        · unfold runs; rw [if_pos h4]
        · unfold runs; rw [if_pos (hk ▸ h4)]
      · have h4' : ¬ y.k = 4 := by rw [← hk]; exact h4
        cases hx : step s x with
        | error c => rw [runs_no h4 hx, runs_no h4' (hs ▸ hx)]; exact .inr ⟨c, _, _, rfl, rfl⟩
        | ok s' => rw [runs_one h4 hx, runs_one h4' (hs ▸ hx)]; exact ih u s' h.2

/-- so many times the same. -/
def rep {α : Type} (n : Nat) (l : List α) : List α := (List.replicate n l).flatten
theorem rep_zero {α : Type} (l : List α) : rep 0 l = [] := rfl
theorem rep_snoc' {α : Type} (n : Nat) (l : List α) : rep (n + 1) l = rep n l ++ l := by
  unfold rep
  rw [List.replicate_succ', List.flatten_append]
  simp
theorem rep_cons {α : Type} (n : Nat) (l : List α) : rep (n + 1) l = l ++ rep n l := by
  unfold rep
  rw [List.replicate_succ, List.flatten_cons]
theorem rep_len {α : Type} (n : Nat) (l : List α) : (rep n l).length = n * l.length := by
  induction n with
  | zero => simp [rep]
  | succ n ih => rw [rep_snoc', List.length_append, ih, Nat.add_mul, Nat.one_mul]

def bWhen : List UInt8 := [32, 119, 104, 101, 110, 32, 97, 114, 103, 48, 60, 49]
def bAnd : List UInt8 := [32, 97, 110, 100, 32, 97, 114, 103, 48, 60, 49]

/-- conditions as bytes, and as tokens. -/
def cdB : Nat → List UInt8
  | 0 => []
  | n + 1 => bWhen ++ rep n bAnd
def cdK : Nat → List Tok
  | 0 => []
  | n + 1 => (tWhen :: tArg) ++ rep n (tAnd :: tArg)

theorem cdB_snoc (n : Nat) : cdB (n + 1) = cdB n ++ (if n = 0 then bWhen else bAnd) := by
  cases n with
  | zero => rfl
  | succ n =>
    rw [if_neg (by omega)]
    show bWhen ++ rep (n + 1) bAnd = bWhen ++ rep n bAnd ++ bAnd
    rw [rep_snoc', List.append_assoc]

/-- a rule of so many names and conditions, but for its end. -/
def oneB (names conds : Nat) : List UInt8 := [108, 111, 103, 32, 97] ++ rep names [44, 97] ++ cdB conds
def oneK (names conds : Nat) : List Tok := [tLog, tA] ++ rep names [tC, tA] ++ cdK conds

theorem lx_names (n : Nat) : Lx ([108, 111, 103, 32, 97] ++ rep n [44, 97]) ([tLog, tA] ++ rep n [tC, tA]) := by
  induction n with
  | zero => rw [rep_zero, rep_zero, List.append_nil, List.append_nil]; exact lx_loga
  | succ n ih =>
    rw [rep_snoc', rep_snoc', ← List.append_assoc, ← List.append_assoc]
    exact ih.trans lx_ca (fin_44 _)

theorem lx_conds {B : List UInt8} {K : List Tok} (h : Lx B K) (n : Nat) : Lx (B ++ cdB n) (K ++ cdK n) := by
  cases n with
  | zero => show Lx (B ++ []) (K ++ []); rw [List.append_nil, List.append_nil]; exact h
  | succ n =>
    show Lx (B ++ (bWhen ++ rep n bAnd)) (K ++ ((tWhen :: tArg) ++ rep n (tAnd :: tArg)))
    induction n with
    | zero => rw [rep_zero, rep_zero, List.append_nil, List.append_nil]; exact h.trans lx_when (fin_32 _)
    | succ n ih =>
      rw [rep_snoc', rep_snoc', ← List.append_assoc bWhen, ← List.append_assoc B, ← List.append_assoc (tWhen :: tArg), ← List.append_assoc K]
      exact ih.trans lx_and (fin_32 _)

theorem lx_piece (n m : Nat) : LxU (oneB n m ++ [59]) (oneK n m ++ [tS]) := (lx_conds (lx_names n) m).transU lx_semi (fin_59 _)

def dlogK : List Tok := [⟨1, 0, wDefault, 0⟩, tLog, tS]

theorem lx_dlog : LxU dlog dlogK := by
  show LxU ([100, 101, 102, 97, 117, 108, 116] ++ ([32] ++ ([108, 111, 103] ++ [59]))) ([⟨1, 0, wDefault, 0⟩] ++ ([] ++ ([tLog] ++ [tS])))
  exact (lx_word (c := 100) (t := [101, 102, 97, 117, 108, 116]) (by decide) (by decide)).transU (lx_blank.transU ((lx_word (c := 108) (t := [111, 103]) (by decide) (by decide)).transU lx_semi (fin_59 _))) (fin_32 _)

theorem lx_many (n m : Nat) : ∀ k, LxU (dlog ++ rep k (oneB n m ++ [59])) (dlogK ++ rep k (oneK n m ++ [tS])) := by
  intro k
  induction k with
  | zero => rw [rep_zero, rep_zero, List.append_nil, List.append_nil]; exact lx_dlog
  | succ k ih =>
    have e1 : dlog ++ rep (k + 1) (oneB n m ++ [59]) = dlog ++ rep k (oneB n m ++ [59]) ++ (oneB n m ++ [59]) := by rw [rep_snoc', List.append_assoc]
    have e2 : dlogK ++ rep (k + 1) (oneK n m ++ [tS]) = dlogK ++ rep k (oneK n m ++ [tS]) ++ (oneK n m ++ [tS]) := by rw [rep_snoc', List.append_assoc]
    rw [e1, e2]
    exact ih.transU (lx_piece n m)

theorem runs_names (d : Ac) (rs : List Rl) (a : Ac) : ∀ (n : Nat) (ns : List (List UInt8)), ns.length ≤ 16 →
    (ns.length + n ≤ 16 → ∃ ns', ns'.length = ns.length + n ∧ runs (.s7 d rs a ns) (rep n [tC, tA]) = .ok (.s7 d rs a ns')) ∧ (16 < ns.length + n → ∃ p, runs (.s7 d rs a ns) (rep n [tC, tA]) = .error (4, p)) := by
  intro n
  induction n with
  | zero => intro ns h; exact ⟨fun _ => ⟨ns, rfl, rfl⟩, fun h2 => by omega⟩
  | succ n ih =>
    intro ns h
    have h1 : step (.s7 d rs a ns) tC = .ok (.s6 d rs a ns) := rfl
    rw [rep_cons]
    show (_ → ∃ ns', _ ∧ runs (.s7 d rs a ns) (tC :: tA :: rep n [tC, tA]) = _) ∧ (_ → ∃ p, runs (.s7 d rs a ns) (tC :: tA :: rep n [tC, tA]) = _)
    rw [runs_one (by decide) h1]
    by_cases hn : 16 ≤ ns.length
    · have h2 : step (.s6 d rs a ns) tA = .error 4 := by
        simp only [step]
        rw [if_pos (by decide), if_pos hn]
      rw [runs_no (by decide) h2]
      exact ⟨fun h3 => by omega, fun _ => ⟨_, rfl⟩⟩
    · have h2 : step (.s6 d rs a ns) tA = .ok (.s7 d rs a (ns ++ [[97]])) := by
        simp only [step]
        rw [if_pos (by decide), if_neg hn]
        rfl
      rw [runs_one (by decide) h2]
      obtain ⟨g1, g2⟩ := ih (ns ++ [[97]]) (by simp; omega)
      simp only [List.length_append, List.length_cons, List.length_nil] at g1 g2
      refine ⟨fun h3 => ?_, fun h3 => g2 (by omega)⟩
      obtain ⟨ns', e1, e2⟩ := g1 (by omega)
      exact ⟨ns', by omega, e2⟩

/-- a condition. -/
theorem runs_arg (d : Ac) (rs : List Rl) (a : Ac) (ns : List (List UInt8)) (cs : List Cd) (r : List Tok) :
    (cs.length < 8 → runs (.s8 d rs a ns cs) (tArg ++ r) = runs (.s13 d rs a ns (cs ++ [⟨0, 3, 18446744073709551615, 1⟩])) r) ∧ (8 ≤ cs.length → ∃ p, runs (.s8 d rs a ns cs) (tArg ++ r) = .error (4, p)) := by
  constructor
  · intro h
    show runs (.s8 d rs a ns cs) (⟨1, 0, [97, 114, 103, 48], 0⟩ :: ⟨3, 0, [60], 0⟩ :: ⟨2, 0, [49], 1⟩ :: r) = _
    rw [runs_one (by decide) (s' := .s9 d rs a ns cs 0) (by
      simp only [step]
      rw [if_pos (by decide), if_neg (by omega)]
      rfl)]
    rw [runs_one (by decide) (s' := .s12 d rs a ns cs 0 18446744073709551615 3) rfl]
    rw [runs_one (by decide) (s' := .s13 d rs a ns (cs ++ [⟨0, 3, 18446744073709551615, 1⟩])) rfl]
  · intro h
    refine ⟨0, ?_⟩
    show runs (.s8 d rs a ns cs) (⟨1, 0, [97, 114, 103, 48], 0⟩ :: ⟨3, 0, [60], 0⟩ :: ⟨2, 0, [49], 1⟩ :: r) = _
    rw [runs_no (c := 4) (by decide) (by
      simp only [step]
      rw [if_pos (by decide), if_pos h])]

theorem runs_conds (d : Ac) (rs : List Rl) (a : Ac) (ns : List (List UInt8)) : ∀ (n : Nat) (cs : List Cd), cs.length ≤ 8 →
    (cs.length + n ≤ 8 → ∃ cs', runs (.s13 d rs a ns cs) (rep n (tAnd :: tArg)) = .ok (.s13 d rs a ns cs')) ∧ (8 < cs.length + n → ∃ p, runs (.s13 d rs a ns cs) (rep n (tAnd :: tArg)) = .error (4, p)) := by
  intro n
  induction n with
  | zero => intro cs h; exact ⟨fun _ => ⟨cs, rfl⟩, fun h2 => by omega⟩
  | succ n ih =>
    intro cs h
    have h1 : step (.s13 d rs a ns cs) tAnd = .ok (.s8 d rs a ns cs) := rfl
    rw [rep_cons, List.cons_append, runs_one (by decide) h1]
    obtain ⟨g1, g2⟩ := runs_arg d rs a ns cs (rep n (tAnd :: tArg))
    by_cases hn : 8 ≤ cs.length
    · exact ⟨fun h3 => by omega, fun _ => g2 hn⟩
    · rw [g1 (by omega)]
      obtain ⟨k1, k2⟩ := ih (cs ++ [⟨0, 3, 18446744073709551615, 1⟩]) (by simp; omega)
      simp only [List.length_append, List.length_cons, List.length_nil] at k1 k2
      exact ⟨fun h3 => k1 (by omega), fun h3 => k2 (by omega)⟩

/-- a rule, whole. -/
theorem runs_piece (d : Ac) (rs : List Rl) (n m : Nat) :
    (rs.length < 64 ∧ n + 1 ≤ 16 ∧ m ≤ 8 → ∃ R, runs (.s4 d rs) (oneK n m ++ [tS]) = .ok (.s4 d (rs ++ [R]))) ∧ (64 ≤ rs.length ∨ 16 < n + 1 ∨ 8 < m → ∃ p, runs (.s4 d rs) (oneK n m ++ [tS]) = .error (4, p)) := by
  have e : oneK n m ++ [tS] = tLog :: tA :: (rep n [tC, tA] ++ (cdK m ++ [tS])) := by simp [oneK]
  rw [e]
  by_cases h64 : 64 ≤ rs.length
  · refine ⟨fun h => by omega, fun _ => ⟨0, ?_⟩⟩
    rw [runs_no (c := 4) (by decide) (by
      simp only [step]
      rw [if_pos (by decide), if_pos h64])]
    rfl
  · rw [runs_one (by decide) (s' := .s6 d rs ⟨7, 0⟩ []) (by
      simp only [step]
      rw [if_pos (by decide), if_neg h64]
      rfl)]
    rw [runs_one (by decide) (s' := .s7 d rs ⟨7, 0⟩ [[97]]) rfl]
    obtain ⟨g1, g2⟩ := runs_names d rs ⟨7, 0⟩ n [[97]] (by simp)
    simp only [List.length_cons, List.length_nil] at g1 g2
    by_cases h16 : 16 < n + 1
    · obtain ⟨p, hp⟩ := g2 (by omega)
      exact ⟨fun h => by omega, fun _ => ⟨p, runs_bad _ _ hp⟩⟩
    · obtain ⟨ns', _, hn⟩ := g1 (by omega)
      rw [runs_app _ _ hn]
      cases m with
      | zero =>
        refine ⟨fun _ => ⟨⟨⟨7, 0⟩, ns', []⟩, ?_⟩, fun h => by omega⟩
        show runs (.s7 d rs ⟨7, 0⟩ ns') [tS] = _
        rw [runs_one (by decide) (s' := .s4 d (rs ++ [⟨⟨7, 0⟩, ns', []⟩])) rfl]
        rfl
      | succ m =>
        have e2 : cdK (m + 1) ++ [tS] = tWhen :: (tArg ++ (rep m (tAnd :: tArg) ++ [tS])) := by simp [cdK]
        rw [e2, runs_one (by decide) (s' := .s8 d rs ⟨7, 0⟩ ns' []) rfl, (runs_arg d rs ⟨7, 0⟩ ns' [] _).1 (by simp)]
        obtain ⟨k1, k2⟩ := runs_conds d rs ⟨7, 0⟩ ns' m ([] ++ [⟨0, 3, 18446744073709551615, 1⟩]) (by simp)
        simp only [List.length_append, List.length_cons, List.length_nil] at k1 k2
        by_cases h8 : 8 < m + 1
        · obtain ⟨p, hp⟩ := k2 (by omega)
          exact ⟨fun h => by omega, fun _ => ⟨p, runs_bad _ _ hp⟩⟩
        · obtain ⟨cs', hc⟩ := k1 (by omega)
          rw [runs_app _ _ hc]
          refine ⟨fun _ => ⟨⟨⟨7, 0⟩, ns', cs'⟩, ?_⟩, fun h => by omega⟩
          rw [runs_one (by decide) (s' := .s4 d (rs ++ [⟨⟨7, 0⟩, ns', cs'⟩])) rfl]
          rfl

theorem runs_pieces (d : Ac) (n m : Nat) : ∀ (k : Nat) (rs : List Rl), rs.length ≤ 64 →
    (k = 0 ∨ rs.length + k ≤ 64 ∧ n + 1 ≤ 16 ∧ m ≤ 8 → ∃ rs', rs'.length = rs.length + k ∧ runs (.s4 d rs) (rep k (oneK n m ++ [tS])) = .ok (.s4 d rs')) ∧
      (¬ k = 0 ∧ (64 < rs.length + k ∨ 16 < n + 1 ∨ 8 < m) → ∃ p, runs (.s4 d rs) (rep k (oneK n m ++ [tS])) = .error (4, p)) := by
  intro k
  induction k with
  | zero => intro rs h; exact ⟨fun _ => ⟨rs, rfl, rfl⟩, fun h2 => by omega⟩
  | succ k ih =>
    intro rs h
    rw [rep_cons]
    obtain ⟨g1, g2⟩ := runs_piece d rs n m
    by_cases hb : 64 ≤ rs.length ∨ 16 < n + 1 ∨ 8 < m
    · obtain ⟨p, hp⟩ := g2 hb
      exact ⟨fun h3 => by omega, fun _ => ⟨p, runs_bad _ _ hp⟩⟩
    · obtain ⟨R, hR⟩ := g1 (by omega)
      rw [runs_app _ _ hR]
      obtain ⟨k1, k2⟩ := ih (rs ++ [R]) (by simp; omega)
      simp only [List.length_append, List.length_cons, List.length_nil] at k1 k2
      refine ⟨fun h3 => ?_, fun h3 => k2 (by omega)⟩
      obtain ⟨rs', e1, e2⟩ := k1 (by omega)
      exact ⟨rs', by omega, e2⟩

/-- a text of so many rules. -/
theorem prs_many (n m k : Nat) (hlen : (dlog ++ rep k (oneB n m ++ [59])).length ≤ 8192) :
    (k = 0 ∨ k ≤ 64 ∧ n + 1 ≤ 16 ∧ m ≤ 8 → ∃ d rs, rs.length = k ∧ prs (dlog ++ rep k (oneB n m ++ [59])) = .ok (d, rs)) ∧
      (¬ k = 0 ∧ (64 < k ∨ 16 < n + 1 ∨ 8 < m) → ∃ p, prs (dlog ++ rep k (oneB n m ++ [59])) = .error (4, p)) := by
  obtain ⟨A, hA, hg⟩ := lx_many n m k 0 []
  rw [List.append_nil] at hg
  have hall : all (dlog ++ rep k (oneB n m ++ [59])) = .ok (A ++ [⟨4, 0 + (dlog ++ rep k (oneB n m ++ [59])).length, [], 0⟩]) := by
    unfold all
    rw [if_neg (by omega), hg]
    rfl
  have hr : runs .s0 (dlogK ++ rep k (oneK n m ++ [tS])) = runs (.s4 ⟨7, 0⟩ []) (rep k (oneK n m ++ [tS])) := runs_app dlogK _ rfl
  obtain ⟨g1, g2⟩ := runs_pieces ⟨7, 0⟩ n m k [] (by simp)
  rw [← hr] at g1 g2
  simp only [List.length_nil, Nat.zero_add] at g1 g2
  have hp : prs (dlog ++ rep k (oneB n m ++ [59])) = run .s0 (A ++ [⟨4, 0 + (dlog ++ rep k (oneB n m ++ [59])).length, [], 0⟩]) := by
    unfold prs
    rw [hall]
  rcases runs_kv A _ .s0 hA with ⟨v, h1, h2⟩ | ⟨c, p, q, h1, h2⟩
  · refine ⟨fun h => ?_, fun h => ?_⟩
    · obtain ⟨rs', e1, e2⟩ := g1 h
      rw [h2] at e2
      cases e2
      refine ⟨⟨7, 0⟩, rs', e1, ?_⟩
      rw [hp, run_app A _ h1, run_end rfl]
      rfl
    · obtain ⟨p, e⟩ := g2 h
      rw [h2] at e
      cases e
  · refine ⟨fun h => ?_, fun h => ?_⟩
    · obtain ⟨rs', _, e2⟩ := g1 h
      rw [h2] at e2
      cases e2
    · obtain ⟨p', e⟩ := g2 h
      rw [h2] at e
      cases e
      refine ⟨p, ?_⟩
      rw [hp]
      have : ∀ (a : List Tok) (s : St) (e : Tok), (∀ x ∈ a, ¬ x.k = 4) → runs s a = .error (4, p) → run s (a ++ [e]) = .error (4, p) := by
        intro a
        induction a with
        | nil => intro s e _ h; cases h
        | cons x a ih =>
          intro s e hx h
          have h4 := hx x List.mem_cons_self
          cases hs : step s x with
          | error c =>
            rw [runs_no h4 hs] at h
            injection h with h
            rw [List.cons_append, run_err h4 hs, h]
          | ok s' => rw [runs_one h4 hs] at h; rw [List.cons_append, run_step h4 hs]; exact ih s' e (fun y hy => hx y (List.mem_cons_of_mem _ hy)) h
      refine this A .s0 _ (fun x hx => ?_) h1
      have hk : x.k ∈ A.map (fun y => (kv y).1) := List.mem_map.2 ⟨x, hx, rfl⟩
      have hk2 : A.map (fun y => (kv y).1) = (dlogK ++ rep k (oneK n m ++ [tS])).map (fun y => (kv y).1) := by
        have := congrArg (List.map Prod.fst) hA
        rw [List.map_map, List.map_map] at this
        exact this
      rw [hk2] at hk
      obtain ⟨y, hy, e⟩ := List.mem_map.1 hk
      have hy' : y ∈ dlogK ∨ y ∈ oneK n m ++ [tS] := by
        rcases List.mem_append.1 hy with hy | hy
        · exact .inl hy
        · right
          unfold rep at hy
          obtain ⟨l, hl, hyl⟩ := List.mem_flatten.1 hy
          rw [List.eq_of_mem_replicate hl] at hyl
          exact hyl
      have hall4 : ∀ z ∈ dlogK ++ [tS, tLog, tA, tC, tWhen, tAnd] ++ tArg, ¬ z.k = 4 := by decide
      have hin : y ∈ dlogK ++ [tS, tLog, tA, tC, tWhen, tAnd] ++ tArg := by
        rcases hy' with hy | hy
        · simp [hy]
        · unfold oneK at hy
          have hrep : ∀ (j : Nat) (l : List Tok), y ∈ rep j l → y ∈ l := by
            intro j l hy
            unfold rep at hy
            obtain ⟨l', hl, hyl⟩ := List.mem_flatten.1 hy
            rw [List.eq_of_mem_replicate hl] at hyl
            exact hyl
          rcases List.mem_append.1 hy with hy | hy
          · rcases List.mem_append.1 hy with hy | hy
            · rcases List.mem_append.1 hy with hy | hy
              · simp at hy; rcases hy with rfl | rfl <;> simp
              · have := hrep _ _ hy; simp at this; rcases this with rfl | rfl <;> simp
            · cases m with
              | zero => cases hy
              | succ m =>
                rcases List.mem_append.1 hy with hy | hy
                · rcases List.mem_cons.1 hy with rfl | hy
                  · simp
                  · exact List.mem_append_right _ hy
                · have := hrep _ _ hy
                  rcases List.mem_cons.1 this with rfl | hy
                  · simp
                  · exact List.mem_append_right _ hy
          · simp at hy; subst hy; simp
      have := hall4 y hin
      intro h4
      apply this
      have e' : y.k = x.k := e
      rw [e']
      exact h4

end Go.Proofs.YtdjjlccpmfhkiaaDoor
