/-
  Messages as plain lists of bytes: which may be, their bytes, what is read of bytes; both undo one another.
-/
import Derived.Test.YtpdndcmaaghnjaaKMath
import Derived.Test.YtpdndcmaaghnjaaDMath
namespace Go.Proofs.Ytpdndcmaaghnjaa

/-- a message; its path as bytes. -/
structure Mg where
  kind : Int
  epoch : Int
  id : Int
  task : Int
  val : Int
  data : D.Da
  path : List Int
def Mg.zero : Mg := ⟨0, 0, 0, 0, 0, D.Da.zero, []⟩
/-- numbers of their kinds. -/
def Mg.ok (m : Mg) : Prop := D.U64 m.epoch ∧ D.U64 m.id ∧ m.data.ok ∧ D.Byt m.path
/-- it may be. -/
def MgR (m : Mg) : Prop := 1 ≤ m.kind ∧ m.kind ≤ 7 ∧ (m.kind = 1 → m.id = 0) ∧ (m.kind ≠ 2 → m.task = 0 ∧ m.data = D.Da.zero ∧ m.path = []) ∧ (m.kind = 2 → 1 ≤ m.task ∧ m.task ≤ 4 ∧ m.path.length ≤ 256) ∧
  (¬ (m.kind = 4 ∨ m.kind = 5 ∨ m.kind = 7) → m.val = 0) ∧ ((m.kind = 4 ∨ m.kind = 5 ∨ m.kind = 7) → 0 ≤ m.val ∧ m.val ≤ 65535) ∧ (m.kind = 7 → m.val ≤ 1)

/-- its parts behind Kind and Epoch. -/
def idB (m : Mg) : List Int := if m.kind = 1 then [] else K.digs 8 m.id
def ntB (m : Mg) : List Int := if m.kind = 2 then m.task :: (m.data.enc ++ (K.digs 2 m.path.length ++ m.path)) else []
def vaB (m : Mg) : List Int := if m.kind = 4 ∨ m.kind = 5 ∨ m.kind = 7 then K.digs 2 m.val else []
/-- its bytes. -/
def encM (m : Mg) : List Int := m.kind :: (K.digs 8 m.epoch ++ (idB m ++ (ntB m ++ vaB m)))
/-- how many bytes a kind has at least. -/
def need (k : Int) : Nat := if k = 1 then 9 else if k = 2 then 84 else if k = 4 ∨ k = 5 ∨ k = 7 then 19 else 17
/-- how many bytes are told at the front, of Path with it. -/
def size (k : Int) (b : List Int) : Nat := if k = 2 then 84 + (K.numOf ((b.drop 82).take 2)).toNat else need k
/-- what is read, by a kind. -/
def rd (k : Int) (b : List Int) : Mg where
  kind := k
  epoch := K.numOf ((b.drop 1).take 8)
  id := if k = 1 then 0 else K.numOf ((b.drop 9).take 8)
  task := if k = 2 then b.getD 17 0 else 0
  val := if k = 4 ∨ k = 5 ∨ k = 7 then K.numOf ((b.drop 17).take 2) else 0
  data := if k = 2 then D.decOf ((b.drop 18).take 64) else D.Da.zero
  path := if k = 2 then (b.drop 84).take (K.numOf ((b.drop 82).take 2)).toNat else []
/-- what is read may be. -/
def rdR (k : Int) (b : List Int) : Prop := (k = 2 → 1 ≤ (rd k b).task ∧ (rd k b).task ≤ 4 ∧ (rd k b).path.length ≤ 256) ∧ (k = 7 → (rd k b).val ≤ 1)
def rdB (k : Int) (b : List Int) : Bool := decide ((k = 2 → 1 ≤ (rd k b).task ∧ (rd k b).task ≤ 4 ∧ (rd k b).path.length ≤ 256) ∧ (k = 7 → (rd k b).val ≤ 1))
theorem rdB_iff {k : Int} {b : List Int} : rdB k b = true ↔ rdR k b := decide_eq_true_iff
/-- the message of bytes, or why there is none. -/
def decM : List Int → Mg × Int
  | [] => (Mg.zero, 2)
  | k :: r => if ¬ (1 ≤ k ∧ k ≤ 7) then (Mg.zero, 3) else if (k :: r).length < need k ∨ (k :: r).length < size k (k :: r) then (Mg.zero, 2) else if size k (k :: r) < (k :: r).length then (Mg.zero, 3) else if rdB k (k :: r) = true then (rd k (k :: r), 0) else (Mg.zero, 1)

theorem len2 {l : List Int} (h : l.length = 2) : ∃ x y, l = [x, y] := by
  match l, h with
  | [x, y], _ => exact ⟨x, y, rfl⟩
theorem numOf_two (x y : Int) : K.numOf [x, y] = x * 256 + y := by simp [K.numOf]
theorem pow2 : K.pow256 2 = 65536 := by decide
theorem num_u8 {l : List Int} (h : D.Byt l) (hl : l.length ≤ 8) : D.U64 (K.numOf l) := by
  have h1 := K.numOf_bd l h
  have h2 := K.pow256_mono hl
  have h3 := K.pow256_8
  unfold D.U64
  omega
theorem num_2 {l : List Int} (h : D.Byt l) (hl : l.length ≤ 2) : 0 ≤ K.numOf l ∧ K.numOf l ≤ 65535 := by
  have h1 := K.numOf_bd l h
  have h2 := K.pow256_mono hl
  have h3 : K.pow256 2 = 65536 := by decide
  omega
theorem byt_sub {b : List Int} (h : D.Byt b) (i n : Nat) : D.Byt ((b.drop i).take n) := fun z hz => h z (List.mem_of_mem_drop (List.mem_of_mem_take hz))

/-- what is read may be just where the message may be. -/
theorem rd_right {k : Int} {b : List Int} (hk : 1 ≤ k ∧ k ≤ 7) (hb : D.Byt b) : rdR k b ↔ MgR (rd k b) := by
  have hv := num_2 (byt_sub hb 17 2) (by rw [List.length_take]; exact Nat.min_le_left _ _)
  constructor
  · intro h
    refine ⟨hk.1, hk.2, fun e => ?_, fun e => ?_, h.1, fun e => ?_, fun e => ?_, h.2⟩
    · exact if_pos e
    · exact ⟨if_neg e, if_neg e, if_neg e⟩
    · exact if_neg e
    · have e2 : (rd k b).val = K.numOf ((b.drop 17).take 2) := if_pos e
      rw [e2]
      exact hv
  · intro h
    exact ⟨h.2.2.2.2.1, h.2.2.2.2.2.2.2⟩
theorem rd_ok {k : Int} {b : List Int} (hb : D.Byt b) : (rd k b).ok := by
  refine ⟨num_u8 (byt_sub hb 1 8) (by rw [List.length_take]; exact Nat.min_le_left _ _), ?_, ?_, ?_⟩
  · unfold rd
    dsimp only
    split
    · unfold D.U64; decide
    · exact num_u8 (byt_sub hb 9 8) (by rw [List.length_take]; exact Nat.min_le_left _ _)
  · unfold rd
    dsimp only
    split
    · exact D.decOf_ok _ (byt_sub hb 18 64)
    · exact D.zero_ok
  · unfold rd
    dsimp only
    split
    · exact byt_sub hb 84 _
    · exact fun z hz => by cases hz

/-- errors tell nothing else. -/
theorem dec_none {b : List Int} (h : (decM b).2 ≠ 0) : (decM b).1 = Mg.zero := by
  cases b with
  | nil => rfl
  | cons k r =>
    by_cases h1 : 1 ≤ k ∧ k ≤ 7
    · by_cases h2 : (k :: r).length < need k ∨ (k :: r).length < size k (k :: r)
      · rw [decM, if_neg (not_not_intro h1), if_pos h2]
      · by_cases h3 : size k (k :: r) < (k :: r).length
        · rw [decM, if_neg (not_not_intro h1), if_neg h2, if_pos h3]
        · by_cases h4 : rdB k (k :: r) = true
          · rw [decM, if_neg (not_not_intro h1), if_neg h2, if_neg h3, if_pos h4] at h
            exact absurd rfl h
          · rw [decM, if_neg (not_not_intro h1), if_neg h2, if_neg h3, if_neg h4]
    · rw [decM, if_pos h1]
/-- where a message is told: all that holds then. -/
theorem dec_some {b : List Int} (h : (decM b).2 = 0) : ∃ k r, b = k :: r ∧ 1 ≤ k ∧ k ≤ 7 ∧ need k ≤ b.length ∧ size k b = b.length ∧ rdR k b ∧ decM b = (rd k b, 0) := by
  cases b with
  | nil => cases h
  | cons k r =>
    by_cases h1 : 1 ≤ k ∧ k ≤ 7
    · by_cases h2 : (k :: r).length < need k ∨ (k :: r).length < size k (k :: r)
      · rw [decM, if_neg (not_not_intro h1), if_pos h2] at h
        cases h
      · by_cases h3 : size k (k :: r) < (k :: r).length
        · rw [decM, if_neg (not_not_intro h1), if_neg h2, if_pos h3] at h
          cases h
        · by_cases h4 : rdB k (k :: r) = true
          · refine ⟨k, r, rfl, h1.1, h1.2, by omega, by omega, rdB_iff.1 h4, ?_⟩
            rw [decM, if_neg (not_not_intro h1), if_neg h2, if_neg h3, if_pos h4]
          · rw [decM, if_neg (not_not_intro h1), if_neg h2, if_neg h3, if_neg h4] at h
            cases h
    · rw [decM, if_pos h1] at h
      cases h

theorem mg_ext {m n : Mg} (h1 : m.kind = n.kind) (h2 : m.epoch = n.epoch) (h3 : m.id = n.id) (h4 : m.task = n.task) (h5 : m.val = n.val) (h6 : m.data = n.data) (h7 : m.path = n.path) : m = n := by
  cases m; cases n
  simp only at h1 h2 h3 h4 h5 h6 h7
  subst h1 h2 h3 h4 h5 h6 h7
  rfl
theorem take_app {l m : List Int} {n : Nat} (h : l.length = n) : (l ++ m).take n = l := by subst h; exact List.take_left
theorem drop_app {l m : List Int} {n : Nat} (h : l.length = n) : (l ++ m).drop n = m := by subst h; exact List.drop_left
theorem drop_more {b l : List Int} {i n : Nat} (h : b.drop i = l) : b.drop (i + n) = l.drop n := by rw [← h, List.drop_drop]
section
variable {m : Mg} (x : List Int)
theorem en1 : (encM m ++ x).drop 1 = K.digs 8 m.epoch ++ (idB m ++ (ntB m ++ (vaB m ++ x))) := by
  show (K.digs 8 m.epoch ++ (idB m ++ (ntB m ++ vaB m))) ++ x = _
  simp only [List.append_assoc]
theorem en9 : (encM m ++ x).drop 9 = idB m ++ (ntB m ++ (vaB m ++ x)) := by
  rw [drop_more (i := 1) (n := 8) (en1 x), drop_app (K.digs_length 8 _)]
theorem en17 (h : m.kind ≠ 1) : (encM m ++ x).drop 17 = ntB m ++ (vaB m ++ x) := by
  rw [drop_more (i := 9) (n := 8) (en9 x)]
  unfold idB
  rw [if_neg h, drop_app (K.digs_length 8 _)]
theorem va_none (h : m.kind = 2) : vaB m = [] := if_neg (by omega)
theorem en17b (h : m.kind = 2) : (encM m ++ x).drop 17 = m.task :: (m.data.enc ++ (K.digs 2 m.path.length ++ (m.path ++ x))) := by
  rw [en17 x (by omega), va_none h]
  unfold ntB
  rw [if_pos h]
  simp only [List.cons_append, List.append_assoc, List.nil_append]
theorem en18 (h : m.kind = 2) : (encM m ++ x).drop 18 = m.data.enc ++ (K.digs 2 m.path.length ++ (m.path ++ x)) := by
  rw [drop_more (i := 17) (n := 1) (en17b x h)]
  rfl
theorem en82 (h : m.kind = 2) (hd : m.data.ok) : (encM m ++ x).drop 82 = K.digs 2 m.path.length ++ (m.path ++ x) := by
  rw [drop_more (i := 18) (n := 64) (en18 x h), drop_app (D.enc_len _ hd)]
theorem en84 (h : m.kind = 2) (hd : m.data.ok) : (encM m ++ x).drop 84 = m.path ++ x := by
  rw [drop_more (i := 82) (n := 2) (en82 x h hd), drop_app (K.digs_length 2 _)]
theorem en_len (h : m.kind = 2) (hd : m.data.ok) (hp : m.path.length ≤ 256) : K.numOf (((encM m ++ x).drop 82).take 2) = m.path.length := by
  rw [en82 x h hd, take_app (K.digs_length 2 _), K.numOf_digs 2 _ (by omega) (by rw [pow2]; omega)]
theorem rd_enc (hr : MgR m) (ho : m.ok) : rd m.kind (encM m ++ x) = m := by
  obtain ⟨r1, r2, r3, r4, r5, r6, r7, r8⟩ := hr
  obtain ⟨o1, o2, o3, o4⟩ := ho
  have p8 := K.pow256_8
  unfold D.U64 at o1 o2
  refine mg_ext rfl ?_ ?_ ?_ ?_ ?_ ?_
  · show K.numOf (((encM m ++ x).drop 1).take 8) = _
    rw [en1, take_app (K.digs_length 8 _), K.numOf_digs 8 _ o1.1 (by omega)]
  · show (if m.kind = 1 then 0 else K.numOf (((encM m ++ x).drop 9).take 8)) = _
    by_cases h : m.kind = 1
    · rw [if_pos h, r3 h]
    · rw [if_neg h, en9]
      unfold idB
      rw [if_neg h, take_app (K.digs_length 8 _), K.numOf_digs 8 _ o2.1 (by omega)]
  · show (if m.kind = 2 then (encM m ++ x).getD 17 0 else 0) = _
    by_cases h : m.kind = 2
    · have e := en17b x h
      have e2 : (encM m ++ x).getD 17 0 = ((encM m ++ x).drop 17).getD 0 0 := by rw [List.getD_eq_getElem?_getD, List.getD_eq_getElem?_getD, List.getElem?_drop]
      rw [if_pos h, e2, e]
      rfl
    · rw [if_neg h, (r4 h).1]
  · show (if m.kind = 4 ∨ m.kind = 5 ∨ m.kind = 7 then K.numOf (((encM m ++ x).drop 17).take 2) else 0) = _
    by_cases h : m.kind = 4 ∨ m.kind = 5 ∨ m.kind = 7
    · have hv := r7 h
      rw [if_pos h, en17 x (by omega)]
      unfold ntB vaB
      rw [if_neg (by omega), if_pos h, List.nil_append, take_app (K.digs_length 2 _), K.numOf_digs 2 _ hv.1 (by rw [pow2]; omega)]
    · rw [if_neg h, r6 h]
  · show (if m.kind = 2 then D.decOf (((encM m ++ x).drop 18).take 64) else D.Da.zero) = _
    by_cases h : m.kind = 2
    · rw [if_pos h, en18 x h, take_app (D.enc_len _ o3), D.dec_enc _ o3]
    · rw [if_neg h, (r4 h).2.1]
  · show (if m.kind = 2 then ((encM m ++ x).drop 84).take (K.numOf (((encM m ++ x).drop 82).take 2)).toNat else []) = _
    by_cases h : m.kind = 2
    · rw [if_pos h, en_len x h o3 (r5 h).2.2, en84 x h o3]
      exact take_app (by omega)
    · rw [if_neg h, (r4 h).2.2]
theorem enc_length (hr : MgR m) (ho : m.ok) : (encM m).length = if m.kind = 2 then 84 + m.path.length else need m.kind := by
  obtain ⟨r1, r2, _⟩ := hr
  have h8 := K.digs_length 8
  have h2 := K.digs_length 2
  have hd := D.enc_len m.data ho.2.2.1
  unfold encM idB ntB vaB need
  by_cases e1 : m.kind = 1
  · rw [if_pos e1, if_neg (by omega), if_neg (by omega), if_neg (by omega), if_pos e1]
    simp [h8]
  · by_cases e2 : m.kind = 2
    · rw [if_neg e1, if_pos e2, if_neg (by omega), if_pos e2]
      simp only [List.length_cons, List.length_append, h8, h2, hd, List.length_nil]
      omega
    · rw [if_neg e1, if_neg e2, if_neg e2, if_neg e1, if_neg e2]
      by_cases e4 : m.kind = 4 ∨ m.kind = 5 ∨ m.kind = 7
      · rw [if_pos e4, if_pos e4]
        simp [h8, h2]
      · rw [if_neg e4, if_neg e4]
        simp [h8]
theorem size_enc (hr : MgR m) (ho : m.ok) : size m.kind (encM m ++ x) = (encM m).length := by
  rw [enc_length hr ho]
  unfold size
  by_cases e2 : m.kind = 2
  · rw [if_pos e2, if_pos e2, en_len x e2 ho.2.2.1 (hr.2.2.2.2.1 e2).2.2]
    omega
  · rw [if_neg e2, if_neg e2]
theorem need_enc (hr : MgR m) (ho : m.ok) : need m.kind ≤ (encM m).length := by
  rw [enc_length hr ho]
  by_cases e2 : m.kind = 2
  · rw [if_pos e2]
    unfold need
    rw [if_neg (by omega), if_pos e2]
    omega
  · rw [if_neg e2]
    exact Nat.le_refl _
end
/-- no message has more than 512 bytes. -/
theorem enc_most {m : Mg} (hr : MgR m) (ho : m.ok) : (encM m).length ≤ 512 := by
  rw [enc_length hr ho]
  by_cases e2 : m.kind = 2
  · rw [if_pos e2]
    have := (hr.2.2.2.2.1 e2).2.2
    omega
  · rw [if_neg e2]
    unfold need
    rw [if_neg e2]
    split
    · omega
    · split <;> omega
theorem enc_pos (m : Mg) : 0 < (encM m).length := by simp [encM]
theorem enc_byt {m : Mg} (hr : MgR m) (ho : m.ok) : D.Byt (encM m) := by
  obtain ⟨r1, r2, r3, r4, r5, r6, r7, r8⟩ := hr
  intro z hz
  have hd : ∀ k n, ∀ z ∈ K.digs k n, 0 ≤ z ∧ z ≤ 255 := K.digs_bd
  unfold encM idB ntB vaB at hz
  rcases List.mem_cons.1 hz with rfl | hz
  · omega
  rcases List.mem_append.1 hz with hz | hz
  · exact hd _ _ z hz
  rcases List.mem_append.1 hz with hz | hz
  · split at hz
    · cases hz
    · exact hd _ _ z hz
  rcases List.mem_append.1 hz with hz | hz
  · split at hz
    · rename_i e2
      rcases List.mem_cons.1 hz with rfl | hz
      · have := r5 e2; omega
      rcases List.mem_append.1 hz with hz | hz
      · exact D.enc_byt _ ho.2.2.1 z hz
      rcases List.mem_append.1 hz with hz | hz
      · exact hd _ _ z hz
      · exact ho.2.2.2 z hz
    · cases hz
  · split at hz
    · exact hd _ _ z hz
    · cases hz
theorem dec_at {k : Int} {b : List Int} (hb : b.head? = some k) : decM b = if ¬ (1 ≤ k ∧ k ≤ 7) then (Mg.zero, 3) else if b.length < need k ∨ b.length < size k b then (Mg.zero, 2) else if size k b < b.length then (Mg.zero, 3) else if rdB k b = true then (rd k b, 0) else (Mg.zero, 1) := by
  cases b with
  | nil => cases hb
  | cons k' r =>
    cases hb
    rfl
/-- what was encoded is decoded as it was (P17.3). -/
theorem dec_enc {m : Mg} (hr : MgR m) (ho : m.ok) : decM (encM m) = (m, 0) := by
  have e := rd_enc (m := m) [] hr ho
  have s := size_enc (m := m) [] hr ho
  rw [List.append_nil] at e s
  have n := need_enc (m := m) hr ho
  have hb := enc_byt hr ho
  rw [dec_at (k := m.kind) rfl, if_neg (not_not_intro ⟨hr.1, hr.2.1⟩), if_neg (by omega), if_neg (by omega), if_pos, e]
  rw [rdB_iff, rd_right ⟨hr.1, hr.2.1⟩ hb, e]
  exact hr
/-- with more behind it is none. -/
theorem dec_more {m : Mg} (x : List Int) (hx : 0 < x.length) (hr : MgR m) (ho : m.ok) : decM (encM m ++ x) = (Mg.zero, 3) := by
  have s := size_enc (m := m) x hr ho
  have n := need_enc (m := m) hr ho
  have hl : (encM m ++ x).length = (encM m).length + x.length := List.length_append
  rw [dec_at (k := m.kind) rfl, if_neg (not_not_intro ⟨hr.1, hr.2.1⟩), if_neg (by omega), if_pos (by omega)]
/-- nor is a beginning. -/
theorem dec_cut {m : Mg} (c : Nat) (hc : c < (encM m).length) (hr : MgR m) (ho : m.ok) : decM ((encM m).take c) = (Mg.zero, 2) := by
  cases c with
  | zero => rfl
  | succ c =>
    have hl : ((encM m).take (c + 1)).length = c + 1 := by rw [List.length_take]; omega
    have hh : ((encM m).take (c + 1)).head? = some m.kind := rfl
    rw [dec_at hh, if_neg (not_not_intro ⟨hr.1, hr.2.1⟩), if_pos]
    rw [hl]
    by_cases hn : c + 1 < need m.kind
    · exact .inl hn
    · refine .inr ?_
      have hlen := enc_length hr ho
      by_cases e2 : m.kind = 2
      · rw [if_pos e2] at hlen
        have hn2 : 84 ≤ c + 1 := by unfold need at hn; rw [if_neg (by omega), if_pos e2] at hn; omega
        have e := en_len (m := m) [] e2 ho.2.2.1 (hr.2.2.2.2.1 e2).2.2
        rw [List.append_nil] at e
        have e3 : (((encM m).take (c + 1)).drop 82).take 2 = ((encM m).drop 82).take 2 := by
          rw [List.drop_take, List.take_take]
          congr 1
          omega
        unfold size
        rw [if_pos e2, e3, e]
        omega
      · rw [if_neg e2] at hlen
        omega
/-- unlike messages have unlike bytes. -/
theorem enc_inj {m n : Mg} (hm : MgR m) (om : m.ok) (hn : MgR n) (on : n.ok) (h : encM m = encM n) : m = n := by
  have h1 := dec_enc hm om
  rw [h, dec_enc hn on] at h1
  exact (congrArg Prod.fst h1).symm
theorem part {b l : List Int} {i n : Nat} (h : b.drop i = l) : l = (b.drop i).take n ++ b.drop (i + n) := by
  rw [← h, ← List.drop_drop]
  exact (List.take_append_drop n _).symm
theorem digs_back {l : List Int} {n : Nat} (h : D.Byt l) (hl : l.length = n) : K.digs n (K.numOf l) = l := by
  subst hl
  exact K.digs_numOf l h
/-- what is decoded, encoded again, is the bytes. -/
theorem enc_dec {b : List Int} (hb : D.Byt b) (h : (decM b).2 = 0) : MgR (decM b).1 ∧ (decM b).1.ok ∧ encM (decM b).1 = b := by
  obtain ⟨k, r, hbr, k1, k7, hn, hs, hr, he⟩ := dec_some h
  rw [he]
  refine ⟨(rd_right ⟨k1, k7⟩ hb).1 hr, rd_ok hb, ?_⟩
  have l9 : 9 ≤ b.length := by
    refine Nat.le_trans ?_ hn
    unfold need
    split
    · omega
    · split
      · omega
      · split <;> omega
  have hd1 : b.drop 1 = (b.drop 1).take 8 ++ b.drop 9 := part rfl
  have e8 : K.digs 8 (K.numOf ((b.drop 1).take 8)) = (b.drop 1).take 8 := digs_back (byt_sub hb 1 8) (by rw [List.length_take, List.length_drop]; omega)
  have hb1 : b = k :: b.drop 1 := by rw [hbr]; rfl
  have key : idB (rd k b) ++ (ntB (rd k b) ++ vaB (rd k b)) = b.drop 9 := by
    unfold idB ntB vaB
    show (if k = 1 then [] else K.digs 8 (rd k b).id) ++ ((if k = 2 then _ else []) ++ (if k = 4 ∨ k = 5 ∨ k = 7 then K.digs 2 (rd k b).val else [])) = _
    by_cases e1 : k = 1
    · have hl : b.length = 9 := by
        rw [← hs]; unfold size need; rw [if_neg (by omega), if_pos e1]
      rw [if_pos e1, if_neg (by omega), if_neg (by omega), List.drop_of_length_le (by omega)]
      rfl
    · have l17 : 17 ≤ b.length := by
        refine Nat.le_trans ?_ hn
        unfold need
        rw [if_neg e1]
        split
        · omega
        · split <;> omega
      have hd9 : b.drop 9 = (b.drop 9).take 8 ++ b.drop 17 := part rfl
      have ei : (rd k b).id = K.numOf ((b.drop 9).take 8) := if_neg e1
      have e9 : K.digs 8 (K.numOf ((b.drop 9).take 8)) = (b.drop 9).take 8 := digs_back (byt_sub hb 9 8) (by rw [List.length_take, List.length_drop]; omega)
      rw [if_neg e1, ei, e9]
      conv => rhs; rw [hd9]
      congr 1
      by_cases e2 : k = 2
      · have hsz : b.length = 84 + (K.numOf ((b.drop 82).take 2)).toNat := by rw [← hs]; unfold size; rw [if_pos e2]
        have et : (rd k b).task = b.getD 17 0 := if_pos e2
        have ed : (rd k b).data = D.decOf ((b.drop 18).take 64) := if_pos e2
        have ep : (rd k b).path = (b.drop 84).take (K.numOf ((b.drop 82).take 2)).toNat := if_pos e2
        have hnn := num_2 (byt_sub hb 82 2) (by rw [List.length_take]; exact Nat.min_le_left _ _)
        have ep2 : (rd k b).path = b.drop 84 := by rw [ep, List.take_of_length_le (by rw [List.length_drop]; omega)]
        have epl : ((rd k b).path.length : Int) = K.numOf ((b.drop 82).take 2) := by rw [ep2, List.length_drop]; omega
        rw [if_pos e2, if_neg (by omega), List.append_nil, et, ed, epl, ep2, D.enc_dec _ (byt_sub hb 18 64) (by rw [List.length_take, List.length_drop]; omega), digs_back (byt_sub hb 82 2) (by rw [List.length_take, List.length_drop]; omega)]
        have h17 : b.drop 17 = b.getD 17 0 :: b.drop 18 := by
          rw [List.drop_eq_getElem_cons (by omega), List.getD_eq_getElem?_getD, List.getElem?_eq_getElem (by omega)]
          rfl
        have h18 : b.drop 18 = (b.drop 18).take 64 ++ b.drop 82 := part rfl
        have h82 : b.drop 82 = (b.drop 82).take 2 ++ b.drop 84 := part rfl
        conv => rhs; rw [h17, h18, h82]
      · rw [if_neg e2, List.nil_append]
        by_cases e4 : k = 4 ∨ k = 5 ∨ k = 7
        · have hl : b.length = 19 := by rw [← hs]; unfold size need; rw [if_neg e2, if_neg e1, if_neg e2, if_pos e4]
          have ev : (rd k b).val = K.numOf ((b.drop 17).take 2) := if_pos e4
          rw [if_pos e4, ev, digs_back (byt_sub hb 17 2) (by rw [List.length_take, List.length_drop]; omega), List.take_of_length_le (by rw [List.length_drop]; omega)]
        · have hl : b.length = 17 := by rw [← hs]; unfold size need; rw [if_neg e2, if_neg e1, if_neg e2, if_neg e4]
          rw [if_neg e4, List.drop_of_length_le (by omega)]
  show k :: (K.digs 8 (K.numOf ((b.drop 1).take 8)) ++ (idB (rd k b) ++ (ntB (rd k b) ++ vaB (rd k b)))) = b
  rw [e8, key, ← hd1, ← hb1]

end Go.Proofs.Ytpdndcmaaghnjaa
