/-
  The programs of rules as plain lists, and the small functions of package compile.
-/
import Derived.Test.YtpojlfenmanehaaGreatGV4
import Derived.Test.YtpojlfenmanehaaGreatGC1
import Derived.Laws.BitsAllLaws
import Derived.Test.YtpojlfenmanehaaGreatGM5
import Derived.Test.YtpojlfenmanehaaGreatGA
import Derived.Test.YtpojlfenmanehaaGreatGT
import Derived.Test.YtpojlfenmanehaaGreatGM6
import Derived.Maps.AppendAt
namespace Go.Proofs.YtpojlfenmanehaaGreat
open Go.RowKit

/-- a run of what lies ahead, so many being left out first: through how many it goes, and what it answers. -/
def ex (d : V.Da) : List V.In → Nat → V.St → Nat × Int
  | [], _, s => (0, s.ans)
  | _ :: r, k + 1, s => ex d r k s
  | x :: r, 0, s => if V.endV x s = true then (1, V.tellV x s) else ((ex d r (V.skipV x (V.doV d x s)).toNat (V.doV d x s)).1 + 1, (ex d r (V.skipV x (V.doV d x s)).toNat (V.doV d x s)).2)

theorem ex_nil (d : V.Da) (k : Nat) (s : V.St) : ex d [] k s = (0, s.ans) := by cases k <;> rfl
theorem ex_succ (d : V.Da) (x : V.In) (r : List V.In) (k : Nat) (s : V.St) : ex d (x :: r) (k + 1) s = ex d r k s := rfl
theorem ex_zero (d : V.Da) (x : V.In) (r : List V.In) (s : V.St) : ex d (x :: r) 0 s = if V.endV x s = true then (1, V.tellV x s) else ((ex d r (V.skipV x (V.doV d x s)).toNat (V.doV d x s)).1 + 1, (ex d r (V.skipV x (V.doV d x s)).toNat (V.doV d x s)).2) := rfl

theorem ex_drop (d : V.Da) (l : List V.In) : ∀ (k : Nat) (s : V.St), ex d l k s = ex d (l.drop k) 0 s := by
  induction l with
  | nil => intro k s; rw [List.drop_nil, ex_nil, ex_nil]
  | cons x r ih =>
    intro k s
    cases k with
    | zero => rfl
    | succ k => rw [ex_succ, List.drop_succ_cons]; exact ih k s

theorem ex_app (d : V.Da) (a b : List V.In) (k : Nat) (s : V.St) : ex d (a ++ b) (a.length + k) s = ex d b k s := by
  rw [ex_drop, ex_drop d b k, List.drop_append, List.drop_eq_nil_of_le (by omega), List.nil_append, Nat.add_sub_cancel_left]

/-- the walk is what the machine does. -/
theorem run_ex (l : List V.In) (d : V.Da) (ho : ∀ x ∈ l, x.ok) (n : Nat) : ∀ (p : Nat) (s : V.St), l.length - p ≤ n →
    ((V.runV l d (l.length - p) p s).1.length, (V.runV l d (l.length - p) p s).2.ans) = ex d (l.drop p) 0 s := by
  induction n with
  | zero =>
    intro p s h
    rw [V.runV_none l d _ p s (by omega), List.drop_eq_nil_of_le (by omega), ex_nil]
    rfl
  | succ n ih =>
    intro p s h
    by_cases hp : p < l.length
    · have hx : l[p]? = some l[p] := List.getElem?_eq_getElem hp
      have hxo := ho _ (List.getElem_mem hp)
      rw [V.runV_step l d ho p s _ hx, List.drop_eq_getElem_cons hp, ex_zero]
      cases he : V.endV l[p] s with
      | true =>
        have e2 : V.nextV l.length d l[p] p s = ((l.length : Int), { s with ans := V.tellV l[p] s }) := by unfold V.nextV; rw [if_pos he]
        rw [e2]
        dsimp only
        rw [V.runV_none l d _ ((l.length : Nat) : Int).toNat _ (by omega), if_pos rfl]
        rfl
      | false =>
        have e2 : V.nextV l.length d l[p] p s = ((p : Int) + 1 + V.skipV l[p] (V.doV d l[p] s), V.doV d l[p] s) := by unfold V.nextV; rw [if_neg (by rw [he]; decide)]
        have hs := V.skipV_nn l[p] (V.doV d l[p] s) hxo
        rw [e2, if_neg (by decide)]
        dsimp only
        rw [show ((p : Int) + 1 + V.skipV l[p] (V.doV d l[p] s)).toNat = p + 1 + (V.skipV l[p] (V.doV d l[p] s)).toNat from by omega]
        have := ih (p + 1 + (V.skipV l[p] (V.doV d l[p] s)).toNat) (V.doV d l[p] s) (by omega)
        rw [ex_drop, List.drop_drop, ← this]
        rfl
    · rw [V.runV_none l d _ p s (by omega), List.drop_eq_nil_of_le (by omega), ex_nil]
      rfl

/-- a block of instructions ends the run, whatever lies behind it. -/
def Stop (d : V.Da) (a : List V.In) (s : V.St) (m : Nat) (v : Int) : Prop := ∃ n, n ≤ m ∧ ∀ b, ex d (a ++ b) 0 s = (n, v)
/-- a block goes on behind itself, so many being left out. -/
def Fall (d : V.Da) (a : List V.In) (s : V.St) (m j : Nat) : Prop := ∃ n s', n ≤ m ∧ ∀ b, ex d (a ++ b) 0 s = ((ex d b j s').1 + n, (ex d b j s').2)

/-- what each of the instructions does. -/
theorem ex_ret (d : V.Da) (k : Int) (b : List V.In) (s : V.St) : ex d (⟨6, 0, 0, k⟩ :: b) 0 s = (1, k) := by
  rw [ex_zero, if_pos (show V.endV ⟨6, 0, 0, k⟩ s = true from rfl)]
  rfl
theorem ex_ld (d : V.Da) (k : Int) (b : List V.In) (s : V.St) : ex d (⟨32, 0, 0, k⟩ :: b) 0 s = ((ex d b 0 { s with a := V.ldv d k }).1 + 1, (ex d b 0 { s with a := V.ldv d k }).2) := by
  have h1 : V.endV ⟨32, 0, 0, k⟩ s = false := rfl
  have h2 : V.doV d ⟨32, 0, 0, k⟩ s = { s with a := V.ldv d k } := rfl
  have h3 : ∀ t, V.skipV ⟨32, 0, 0, k⟩ t = 0 := fun t => by
    unfold V.skipV
    rw [if_pos (show V.jumpsB 32 = false by decide +kernel)]
  rw [ex_zero, if_neg (by rw [h1]; decide), h2, h3]
  rfl
theorem kOf84 : V.kOf 84 = 84 := by decide +kernel
theorem kOf21 : V.kOf 21 = 21 := by decide +kernel
theorem kOf37 : V.kOf 37 = 37 := by decide +kernel
theorem kOf53 : V.kOf 53 = 53 := by decide +kernel
theorem kOf5 : V.kOf 5 = 5 := by decide +kernel
theorem ex_and (d : V.Da) (k : Int) (b : List V.In) (s : V.St) : ex d (⟨84, 0, 0, k⟩ :: b) 0 s = ((ex d b 0 { s with a := bits .and .u32 s.a k }).1 + 1, (ex d b 0 { s with a := bits .and .u32 s.a k }).2) := by
  have h1 : V.endV ⟨84, 0, 0, k⟩ s = false := rfl
  have h4 : V.othV ⟨84, 0, 0, k⟩ s = k := by unfold V.othV; rw [if_pos (by rw [kOf84]; rfl)]
  have h2 : V.doV d ⟨84, 0, 0, k⟩ s = { s with a := bits .and .u32 s.a k } := by
    show ({ s with a := V.reckV (V.kOf 84) s.a (V.othV ⟨84, 0, 0, k⟩ s) } : V.St) = _
    rw [kOf84, h4]
    rfl
  have h3 : ∀ t, V.skipV ⟨84, 0, 0, k⟩ t = 0 := fun t => by
    unfold V.skipV
    rw [if_pos (show V.jumpsB 84 = false by decide +kernel)]
  rw [ex_zero, if_neg (by rw [h1]; decide), h2, h3]
  rfl
/-- the three codes that a program asks by. -/
def Ask (c : Int) : Prop := c = 21 ∨ c = 37 ∨ c = 53
theorem ex_jump (d : V.Da) (c k : Int) (t f : Nat) (b : List V.In) (s : V.St) (hc : Ask c) : ex d (⟨c, t, f, k⟩ :: b) 0 s = ((ex d b (if V.holdsV c s.a k = true then t else f) s).1 + 1, (ex d b (if V.holdsV c s.a k = true then t else f) s).2) := by
  have hk : V.kOf c = c ∧ V.jumpsB c = true ∧ V.isIn V.endL c = false ∧ c ≠ 5 := by
    rcases hc with rfl | rfl | rfl
    · exact ⟨kOf21, by decide +kernel, by decide +kernel, by decide⟩
    · exact ⟨kOf37, by decide +kernel, by decide +kernel, by decide⟩
    · exact ⟨kOf53, by decide +kernel, by decide +kernel, by decide⟩
  have h1 : V.endV ⟨c, t, f, k⟩ s = false := by
    rcases hc with rfl | rfl | rfl <;> rfl
  have h4 : ∀ z : V.St, V.othV ⟨c, t, f, k⟩ z = k := fun z => by unfold V.othV; rw [if_pos (by simp [hk.1])]
  have h2 : V.doV d ⟨c, t, f, k⟩ s = s := by
    rcases hc with rfl | rfl | rfl
    · show ({ s with a := V.reckV (V.kOf 21) s.a (V.othV ⟨21, t, f, k⟩ s) } : V.St) = _
      rw [kOf21]; rfl
    · show ({ s with a := V.reckV (V.kOf 37) s.a (V.othV ⟨37, t, f, k⟩ s) } : V.St) = _
      rw [kOf37]; rfl
    · show ({ s with a := V.reckV (V.kOf 53) s.a (V.othV ⟨53, t, f, k⟩ s) } : V.St) = _
      rw [kOf53]; rfl
  have h3 : V.skipV ⟨c, t, f, k⟩ s = ((if V.holdsV c s.a k = true then t else f : Nat) : Int) := by
    unfold V.skipV
    dsimp only
    rw [if_neg (by rw [hk.2.1]; decide), if_neg (by simpa using hk.2.2.2), h4, hk.1]
    split <;> rfl
  rw [ex_zero, if_neg (by rw [h1]; decide), h2, h3, Int.toNat_natCast]
theorem ex_ja (d : V.Da) (k : Nat) (b : List V.In) (s : V.St) : ex d (⟨5, 0, 0, k⟩ :: b) 0 s = ((ex d b k s).1 + 1, (ex d b k s).2) := by
  have h1 : V.endV ⟨5, 0, 0, k⟩ s = false := rfl
  have h2 : V.doV d ⟨5, 0, 0, k⟩ s = s := by
    show ({ s with a := V.reckV (V.kOf 5) s.a (V.othV ⟨5, 0, 0, k⟩ s) } : V.St) = _
    rw [kOf5]; rfl
  have h3 : V.skipV ⟨5, 0, 0, k⟩ s = (k : Int) := by
    unfold V.skipV
    dsimp only
    rw [if_neg (show ¬ V.jumpsB 5 = false by decide +kernel), if_pos (by decide)]
  rw [ex_zero, if_neg (by rw [h1]; decide), h2, h3, Int.toNat_natCast]

/-- instructions of which nothing is wrong, where so many lie behind them. -/
def Gd (m : Nat) : List V.In → Prop
  | [] => True
  | x :: r => (x.ok ∧ V.fault x (r.length + m) = 0) ∧ Gd m r
theorem Gd.app {m : Nat} {a b : List V.In} (ha : Gd (b.length + m) a) (hb : Gd m b) : Gd m (a ++ b) := by
  induction a with
  | nil => exact hb
  | cons x r ih =>
    refine ⟨?_, ih ha.2⟩
    show x.ok ∧ V.fault x ((r ++ b).length + m) = 0
    rw [List.length_append, Nat.add_assoc]
    exact ha.1
theorem Gd.ff {l : List V.In} (h : Gd 0 l) : ∀ p, V.ff l p = (0, -1) := by
  induction l with
  | nil => intro p; rfl
  | cons x r ih =>
    intro p
    unfold V.ff
    rw [if_pos (show V.fault x r.length = 0 from h.1.2)]
    exact ih h.2 (p + 1)
theorem Gd.ok {m : Nat} {l : List V.In} (h : Gd m l) : ∀ x ∈ l, x.ok := by
  induction l with
  | nil => intro x hx; cases hx
  | cons y r ih =>
    intro x hx
    rcases List.mem_cons.1 hx with rfl | hx
    · exact h.1.1
    · exact ih h.2 x hx

theorem fault_ret (k : Int) (n : Nat) : V.fault ⟨6, 0, 0, k⟩ n = 0 := by
  unfold V.fault
  have h1 : V.knownB 6 = true := by decide +kernel
  have h2 : V.loadsB 6 k = false := rfl
  have h3 : V.reckB 6 k = false := rfl
  have h4 : V.outB ⟨6, 0, 0, k⟩ n = false := by
    unfold V.outB
    have : V.jumpsB 6 = false := by decide +kernel
    rw [this]; rfl
  have h5 : V.isIn V.endL 6 = true := rfl
  dsimp only
  rw [h1, h2, h3, h4, h5]
  simp
theorem fault_ld (k : Int) (n : Nat) (h : k % 4 = 0) (hk : k < 64) (hn : 0 < n) : V.fault ⟨32, 0, 0, k⟩ n = 0 := by
  unfold V.fault
  have h1 : V.knownB 32 = true := by decide +kernel
  have h2 : V.loadsB 32 k = false := by
    unfold V.loadsB
    have : ¬ 64 ≤ k := by omega
    simp [h, this]
  have h3 : V.reckB 32 k = false := rfl
  have h4 : V.outB ⟨32, 0, 0, k⟩ n = false := by
    unfold V.outB
    have : V.jumpsB 32 = false := by decide +kernel
    rw [this]; rfl
  dsimp only
  rw [h1, h2, h3, h4, if_neg (by decide), if_neg (by decide), if_neg (by decide), if_neg (by decide), if_neg (by omega)]
theorem fault_and (k : Int) (n : Nat) (hn : 0 < n) : V.fault ⟨84, 0, 0, k⟩ n = 0 := by
  unfold V.fault
  have h1 : V.knownB 84 = true := by decide +kernel
  have h2 : V.loadsB 84 k = false := rfl
  have h3 : V.reckB 84 k = false := rfl
  have h4 : V.outB ⟨84, 0, 0, k⟩ n = false := by
    unfold V.outB
    have : V.jumpsB 84 = false := by decide +kernel
    rw [this]; rfl
  dsimp only
  rw [h1, h2, h3, h4, if_neg (by decide), if_neg (by decide), if_neg (by decide), if_neg (by decide), if_neg (by omega)]
theorem fault_jump (c k : Int) (t f n : Nat) (hc : Ask c) (ht : t < n) (hf : f < n) : V.fault ⟨c, t, f, k⟩ n = 0 := by
  have hk : V.knownB c = true ∧ V.jumpsB c = true ∧ V.loadsB c k = false ∧ V.reckB c k = false := by
    rcases hc with rfl | rfl | rfl
    · exact ⟨by decide +kernel, by decide +kernel, rfl, rfl⟩
    · exact ⟨by decide +kernel, by decide +kernel, rfl, rfl⟩
    · exact ⟨by decide +kernel, by decide +kernel, rfl, rfl⟩
  have h4 : V.outB ⟨c, t, f, k⟩ n = false := by
    unfold V.outB
    rw [Bool.and_eq_false_iff]
    right
    rw [List.any_eq_false]
    intro s hs
    have hs2 : s = (t : Int) ∨ s = (f : Int) := by
      unfold V.skipsL at hs
      dsimp only at hs
      repeat' split at hs
      · cases hs
      · rename_i h5; rcases hc with rfl | rfl | rfl <;> exact absurd h5 (by decide)
      · rename_i h5; rw [hk.2.1] at h5; cases h5
      · left; simpa using hs
      · simpa using hs
      · have : s = (f : Int) ∨ s = (t : Int) := by simpa using hs
        exact this.symm
    unfold V.insB
    rcases hs2 with rfl | rfl
    · simp; omega
    · simp; omega
  unfold V.fault
  dsimp only
  rw [hk.1, hk.2.2.1, hk.2.2.2, h4, if_neg (by decide), if_neg (by decide), if_neg (by decide), if_neg (by decide), if_neg (by omega)]
theorem fault_ja (k n : Nat) (h : k < n) : V.fault ⟨5, 0, 0, k⟩ n = 0 := by
  unfold V.fault
  have h1 : V.knownB 5 = true := by decide +kernel
  have h2 : V.loadsB 5 (k : Int) = false := rfl
  have h3 : V.reckB 5 (k : Int) = false := rfl
  have h4 : V.outB ⟨5, 0, 0, (k : Int)⟩ n = false := by
    unfold V.outB
    rw [Bool.and_eq_false_iff]
    right
    have : V.skipsL ⟨5, 0, 0, (k : Int)⟩ = [(k : Int)] := rfl
    rw [this]
    unfold V.insB
    simp
    omega
  dsimp only
  rw [h1, h2, h3, h4, if_neg (by decide), if_neg (by decide), if_neg (by decide), if_neg (by decide), if_neg (by omega)]
end Go.Proofs.YtpojlfenmanehaaGreat

namespace Go.Proofs.YtpojlfenmanehaaGreat
open Go.RowKit

/-- a word of a call, its bits of a mask. -/
def wordI (p m : Int) : List V.In := ⟨32, 0, 0, p⟩ :: (if m = 4294967295 then [] else [⟨84, 0, 0, m⟩])
/-- the codes that ask. -/
def codeI (o : Int) : Int := if o = 5 then 37 else if o = 6 then 53 else 21
def hiI (o lv : Int) : Int := if o = 6 ∧ 0 < lv then 37 else codeI o
/-- what asks a form of an argument. -/
def lowI (g : Int) (n : C.No) (yes no : Nat) : List V.In := wordI (16 + 8 * g) (V.lo n.m) ++ [⟨codeI n.o, yes, no, V.lo n.v⟩]
def highI (g : Int) (n : C.No) (yes no : Nat) : List V.In :=
  wordI (16 + 8 * g + 4) (V.hi n.m) ++ ((if n.o = 1 then [] else [⟨37, (1 + (lowI g n yes no).length + yes : Nat), 0, V.hi n.v⟩]) ++ [⟨21, 0, ((lowI g n yes no).length + no : Nat), V.hi n.v⟩])
def testY (g : Int) (n : C.No) (yes no : Nat) : List V.In :=
  if V.lo n.m = 0 then wordI (16 + 8 * g + 4) (V.hi n.m) ++ [⟨hiI n.o (V.lo n.v), yes, no, V.hi n.v⟩]
  else if V.hi n.m = 0 then lowI g n yes no else highI g n yes no ++ lowI g n yes no
def testI (g : Int) (n : C.No) (rest : Nat) : List V.In := if n.no = true then testY g n rest 0 else testY g n 0 rest

theorem code_ask (o : Int) : Ask (codeI o) := by
  unfold codeI Ask
  repeat' split
  all_goals simp
theorem hi_ask (o lv : Int) : Ask (hiI o lv) := by
  unfold hiI
  split
  · exact .inr (.inl rfl)
  · exact code_ask o

theorem word_len (p m : Int) : 1 ≤ (wordI p m).length ∧ (wordI p m).length ≤ 2 := by
  unfold wordI
  split <;> simp
theorem low_len (g : Int) (n : C.No) (yes no : Nat) : 2 ≤ (lowI g n yes no).length ∧ (lowI g n yes no).length ≤ 3 := by
  unfold lowI
  have := word_len (16 + 8 * g) (V.lo n.m)
  rw [List.length_append, List.length_singleton]
  omega
theorem high_len (g : Int) (n : C.No) (yes no : Nat) : (highI g n yes no).length ≤ 4 := by
  unfold highI
  have := word_len (16 + 8 * g + 4) (V.hi n.m)
  rw [List.length_append, List.length_append, List.length_singleton]
  split
  · simp; omega
  · simp; omega
theorem testY_len (g : Int) (n : C.No) (yes no : Nat) : 2 ≤ (testY g n yes no).length ∧ (testY g n yes no).length ≤ 7 := by
  have h1 := word_len (16 + 8 * g + 4) (V.hi n.m)
  have h2 := low_len g n yes no
  have h3 := high_len g n yes no
  unfold testY
  repeat' split
  · rw [List.length_append, List.length_singleton]; omega
  · omega
  · rw [List.length_append]; omega
theorem testI_len (g : Int) (n : C.No) (rest : Nat) : 2 ≤ (testI g n rest).length ∧ (testI g n rest).length ≤ 7 := by
  unfold testI
  split
  · exact testY_len ..
  · exact testY_len ..
theorem testY_head (g : Int) (n : C.No) (yes no : Nat) : ∃ k r, testY g n yes no = ⟨32, 0, 0, k⟩ :: r := by
  unfold testY highI lowI wordI
  repeat' split
  all_goals exact ⟨_, _, rfl⟩
theorem testI_head (g : Int) (n : C.No) (rest : Nat) : ∃ k r, testI g n rest = ⟨32, 0, 0, k⟩ :: r := by
  unfold testI
  split
  · exact testY_head ..
  · exact testY_head ..

/-- a word's bits of a mask. -/
theorem and_all (x : Int) (h : V.U32 x) : bits BinOp.and IntKind.u32 x 4294967295 = x := by
  obtain ⟨h0, h1⟩ := h
  obtain ⟨n, rfl⟩ := Int.eq_ofNat_of_zero_le h0
  have h2 := u32_and_nat n 4294967295 (by omega) (by decide)
  have h3 : n &&& 4294967295 = n := by
    have := Nat.and_two_pow_sub_one_of_lt_two_pow (n := 32) (x := n) (by omega)
    exact this
  rw [h3] at h2
  exact h2
theorem word_run (d : V.Da) (hd : d.ok) (p m : Int) (s : V.St) : ∃ (n : Nat) (t : V.St), n ≤ 2 ∧ t.a = bits BinOp.and IntKind.u32 (V.ldv d p) m ∧ ∀ b, ex d (wordI p m ++ b) 0 s = ((ex d b 0 t).1 + n, (ex d b 0 t).2) := by
  unfold wordI
  by_cases h : m = 4294967295
  · rw [if_pos h]
    refine ⟨1, { s with a := V.ldv d p }, by decide, ?_, fun b => ?_⟩
    · rw [h, and_all _ (V.ldv_u d hd p)]
    · exact ex_ld d p b s
  · rw [if_neg h]
    refine ⟨2, { s with a := bits BinOp.and IntKind.u32 (V.ldv d p) m }, by decide, rfl, fun b => ?_⟩
    show ex d (⟨32, 0, 0, p⟩ :: ⟨84, 0, 0, m⟩ :: b) 0 s = _
    rw [ex_ld, ex_and]

/-- halves of numbers, and of their bits of a mask. -/
theorem lo_an {x m : Int} (hx : V.U64 x) (hm : V.U64 m) : bits BinOp.and IntKind.u32 (V.lo x) (V.lo m) = V.lo (C.an x m) := by
  obtain ⟨a, rfl, ha⟩ := C.nat_of hx
  obtain ⟨b, rfl, hb⟩ := C.nat_of hm
  rw [C.an_nat a b ha hb]
  unfold V.lo
  have e1 : ((a : Int) % 4294967296) = ((a % 4294967296 : Nat) : Int) := by omega
  have e2 : ((b : Int) % 4294967296) = ((b % 4294967296 : Nat) : Int) := by omega
  have e3 : (((a &&& b : Nat) : Int) % 4294967296) = (((a &&& b) % 4294967296 : Nat) : Int) := by omega
  rw [e1, e2, e3, u32_and_nat _ _ (by omega) (by omega)]
  have := Nat.and_mod_two_pow (a := a) (b := b) (n := 32)
  rw [show (2 : Nat) ^ 32 = 4294967296 from rfl] at this
  rw [this]
theorem hi_an {x m : Int} (hx : V.U64 x) (hm : V.U64 m) : bits BinOp.and IntKind.u32 (V.hi x) (V.hi m) = V.hi (C.an x m) := by
  obtain ⟨a, rfl, ha⟩ := C.nat_of hx
  obtain ⟨b, rfl, hb⟩ := C.nat_of hm
  rw [C.an_nat a b ha hb]
  unfold V.hi
  have e1 : ((a : Int) / 4294967296) = ((a / 4294967296 : Nat) : Int) := by omega
  have e2 : ((b : Int) / 4294967296) = ((b / 4294967296 : Nat) : Int) := by omega
  have e3 : (((a &&& b : Nat) : Int) / 4294967296) = (((a &&& b) / 4294967296 : Nat) : Int) := by omega
  rw [e1, e2, e3, u32_and_nat _ _ (by omega) (by omega)]
  have := Nat.and_div_two_pow (a := a) (b := b) (n := 32)
  rw [show (2 : Nat) ^ 32 = 4294967296 from rfl] at this
  rw [this]

/-- where an argument's words stand. -/
theorem ld_lo (d : V.Da) (hd : d.ok) (g : Int) (h0 : 0 ≤ g) (h5 : g < 6) : V.ldv d (16 + 8 * g) = V.lo (d.g.getD g.toNat 0) := by
  have h1 := (V.ld_in d (4 + 2 * g.toNat) (by omega)).1
  rw [show ((4 * (4 + 2 * g.toNat) : Nat) : Int) = 16 + 8 * g from by omega] at h1
  rw [h1, V.word_lo d hd g.toNat (by omega)]
theorem ld_hi (d : V.Da) (hd : d.ok) (g : Int) (h0 : 0 ≤ g) (h5 : g < 6) : V.ldv d (16 + 8 * g + 4) = V.hi (d.g.getD g.toNat 0) := by
  have h1 := (V.ld_in d (4 + 2 * g.toNat + 1) (by omega)).1
  rw [show ((4 * (4 + 2 * g.toNat + 1) : Nat) : Int) = 16 + 8 * g + 4 from by omega] at h1
  rw [h1, V.word_hi d hd g.toNat (by omega)]
theorem arg_u (d : V.Da) (hd : d.ok) (k : Nat) : V.U64 (d.g.getD k 0) := by
  by_cases h : k < d.g.length
  · rw [List.getD_eq_getElem?_getD, List.getElem?_eq_getElem h]
    exact hd.2.2.2.2 _ (List.getElem_mem h)
  · rw [List.getD_eq_getElem?_getD, List.getElem?_eq_none (by omega)]
    exact ⟨by decide, by decide⟩

/-- forms with a bit in their mask. -/
structure Fit (n : C.No) : Prop where
  al : n.al = false
  ne : n.ne = false
  o : n.o = 1 ∨ n.o = 5 ∨ n.o = 6
  m : V.U64 n.m
  v : V.U64 n.v
  eq : n.o = 1 → V.lo n.m = 0 → V.lo n.v = 0
  eq' : n.o = 1 → V.hi n.m = 0 → V.hi n.v = 0
  le : n.o ≠ 1 → n.v ≤ n.m
  bit : n.m ≠ 0

/-- does a form, not turned about, hold? -/
def heldY (n : C.No) (x : Int) : Bool := C.heldB n.o (C.an x n.m) n.v
theorem Fit.is {n : C.No} (h : Fit n) (x : Int) : C.isN n x = !(heldY n x == n.no) := by
  unfold C.isN heldY
  rw [h.al, h.ne]
  have : C.hasF n.o = true := by
    unfold C.hasF
    rcases h.o with h | h | h <;> rw [h] <;> rfl
  rw [this]
  rfl

/-- how a jump asks. -/
theorem holds21 (a k : Int) : V.holdsV 21 a k = (a == k) := rfl
theorem holds37 (a k : Int) : V.holdsV 37 a k = decide (k < a) := rfl
theorem holds53 (a k : Int) : V.holdsV 53 a k = decide (k ≤ a) := rfl
theorem held1 (x v : Int) : C.heldB 1 x v = (x == v) := rfl
theorem held5 (x v : Int) : C.heldB 5 x v = decide (v < x) := rfl
theorem held6 (x v : Int) : C.heldB 6 x v = decide (v ≤ x) := by
  unfold C.heldB
  rw [if_neg (by decide), if_neg (by decide), if_neg (by decide), if_neg (by decide), if_neg (by decide)]
  simp

/-- the lower words alone. -/
theorem low_run (d : V.Da) (hd : d.ok) (g : Int) (h0 : 0 ≤ g) (h5 : g < 6) (n : C.No) (hn : Fit n) (yes no : Nat) (s : V.St) :
    Fall d (lowI g n yes no) s 3 (if V.holdsV (codeI n.o) (V.lo (C.an (d.g.getD g.toNat 0) n.m)) (V.lo n.v) = true then yes else no) := by
  obtain ⟨k, t, hk, hta, hw⟩ := word_run d hd (16 + 8 * g) (V.lo n.m) s
  rw [ld_lo d hd g h0 h5, lo_an (arg_u d hd _) hn.m] at hta
  refine ⟨1 + k, t, by omega, fun b => ?_⟩
  unfold lowI
  rw [List.append_assoc, hw]
  show ((ex d (⟨codeI n.o, yes, no, V.lo n.v⟩ :: b) 0 t).1 + k, (ex d (⟨codeI n.o, yes, no, V.lo n.v⟩ :: b) 0 t).2) = _
  rw [ex_jump d _ _ yes no b _ (code_ask n.o), hta]
  exact congrArg (fun z => (z, _)) (by omega)

theorem halves_le {x y : Int} : x ≤ y ↔ V.hi x < V.hi y ∨ (V.hi x = V.hi y ∧ V.lo x ≤ V.lo y) := by
  unfold V.hi V.lo
  omega
theorem halves_lt {x y : Int} : x < y ↔ V.hi x < V.hi y ∨ (V.hi x = V.hi y ∧ V.lo x < V.lo y) := by
  unfold V.hi V.lo
  omega
theorem halves_eq {x y : Int} : x = y ↔ (V.hi x = V.hi y ∧ V.lo x = V.lo y) := by
  unfold V.hi V.lo
  omega
theorem an_le {x m : Int} (hx : V.U64 x) (hm : V.U64 m) : 0 ≤ C.an x m ∧ C.an x m ≤ m := C.an_bd hx hm

/-- a form is asked: it goes on behind itself, so many being left out. -/
theorem testY_run (d : V.Da) (hd : d.ok) (g : Int) (h0 : 0 ≤ g) (h5 : g < 6) (n : C.No) (hn : Fit n) (yes no : Nat) (s : V.St) :
    Fall d (testY g n yes no) s 7 (if heldY n (d.g.getD g.toNat 0) = true then yes else no) := by
  have hx := arg_u d hd g.toNat
  generalize hX : d.g.getD g.toNat 0 = x at hx
  have hb := an_le hx hn.m
  have hloX := lo_an hx hn.m
  have hhiX := hi_an hx hn.m
  obtain ⟨k, t, hk, hta, hw⟩ := word_run d hd (16 + 8 * g + 4) (V.hi n.m) s
  rw [ld_hi d hd g h0 h5, hX, hhiX] at hta
  have hlz : V.lo n.m = 0 → V.lo (C.an x n.m) = 0 := fun h => by
    rw [← hloX, h]
    have := u32_and_nat (V.lo x).toNat 0 (by have := V.lo_u x; unfold V.U32 at this; omega) (by decide)
    rw [show (((V.lo x).toNat : Nat) : Int) = V.lo x from by have := (V.lo_u x).1; omega] at this
    simpa using this
  have hhz : V.hi n.m = 0 → V.hi (C.an x n.m) = 0 := fun h => by
    unfold V.hi at h ⊢
    omega
  unfold testY
  by_cases hl : V.lo n.m = 0
  · rw [if_pos hl]
    refine ⟨1 + k, t, by omega, fun b => ?_⟩
    rw [List.append_assoc, hw]
    show ((ex d (⟨hiI n.o (V.lo n.v), yes, no, V.hi n.v⟩ :: b) 0 t).1 + k, (ex d (⟨hiI n.o (V.lo n.v), yes, no, V.hi n.v⟩ :: b) 0 t).2) = _
    rw [ex_jump d _ _ yes no b _ (hi_ask ..), hta]
    have key : V.holdsV (hiI n.o (V.lo n.v)) (V.hi (C.an x n.m)) (V.hi n.v) = heldY n x := by
      have hz := hlz hl
      unfold heldY
      rcases hn.o with ho | ho | ho
      · have hv := hn.eq ho hl
        rw [ho]
        show V.holdsV 21 _ _ = C.heldB 1 _ _
        rw [holds21, held1, Bool.eq_iff_iff, beq_iff_eq, beq_iff_eq, halves_eq (x := C.an x n.m), hz, hv]
        simp
      · rw [ho]
        show V.holdsV 37 _ _ = C.heldB 5 _ _
        rw [holds37, held5, Bool.eq_iff_iff, decide_eq_true_iff, decide_eq_true_iff, halves_lt (x := n.v), hz]
        have := (V.lo_u n.v).1
        omega
      · rw [ho, held6]
        unfold hiI
        have hlv := (V.lo_u n.v).1
        by_cases hp : 0 < V.lo n.v
        · rw [if_pos ⟨rfl, hp⟩, holds37, Bool.eq_iff_iff, decide_eq_true_iff, decide_eq_true_iff, halves_le (x := n.v), hz]
          omega
        · rw [if_neg (fun h => hp h.2)]
          show V.holdsV 53 _ _ = _
          rw [holds53, Bool.eq_iff_iff, decide_eq_true_iff, decide_eq_true_iff, halves_le (x := n.v), hz]
          omega
    rw [key]
    exact congrArg (fun z => (z, _)) (by omega)
  · rw [if_neg hl]
    by_cases hh : V.hi n.m = 0
    · rw [if_pos hh]
      obtain ⟨j, s', hj, hr⟩ := low_run d hd g h0 h5 n hn yes no s
      rw [hX] at hr
      refine ⟨j, s', by omega, fun b => ?_⟩
      rw [hr b]
      have key : V.holdsV (codeI n.o) (V.lo (C.an x n.m)) (V.lo n.v) = heldY n x := by
        have hz := hhz hh
        unfold heldY
        rcases hn.o with ho | ho | ho
        · have hv := hn.eq' ho hh
          rw [ho]
          show V.holdsV 21 _ _ = C.heldB 1 _ _
          rw [holds21, held1, Bool.eq_iff_iff, beq_iff_eq, beq_iff_eq, halves_eq (x := C.an x n.m), hz, hv]
          simp
        · have hv := hn.le (by rw [ho]; decide)
          have hvh : V.hi n.v = 0 := by have := hn.v.1; unfold V.hi at hh ⊢; omega
          rw [ho]
          show V.holdsV 37 _ _ = C.heldB 5 _ _
          rw [holds37, held5, Bool.eq_iff_iff, decide_eq_true_iff, decide_eq_true_iff, halves_lt (x := n.v), hz, hvh]
          omega
        · have hv := hn.le (by rw [ho]; decide)
          have hvh : V.hi n.v = 0 := by have := hn.v.1; unfold V.hi at hh ⊢; omega
          rw [ho]
          show V.holdsV 53 _ _ = C.heldB 6 _ _
          rw [holds53, held6, Bool.eq_iff_iff, decide_eq_true_iff, decide_eq_true_iff, halves_le (x := n.v), hz, hvh]
          omega
      rw [key]
    · rw [if_neg hh]
      generalize hL : lowI g n yes no = L
      have hlow : ∀ t : V.St, Fall d L t 3 (if V.holdsV (codeI n.o) (V.lo (C.an x n.m)) (V.lo n.v) = true then yes else no) := fun t => by
        have := low_run d hd g h0 h5 n hn yes no t
        rw [hX, hL] at this
        exact this
      have hH : highI g n yes no = wordI (16 + 8 * g + 4) (V.hi n.m) ++ ((if n.o = 1 then [] else [⟨37, (1 + L.length + yes : Nat), 0, V.hi n.v⟩]) ++ [⟨21, 0, (L.length + no : Nat), V.hi n.v⟩]) := by unfold highI; rw [hL]
      rw [hH]
      obtain ⟨j, s', hj, hr⟩ := hlow t
      -- the last jump, of the higher words that are not greater
      have last : ∀ b, ex d (⟨21, 0, (L.length + no : Nat), V.hi n.v⟩ :: (L ++ b)) 0 t = if V.hi (C.an x n.m) = V.hi n.v then ((ex d b (if V.holdsV (codeI n.o) (V.lo (C.an x n.m)) (V.lo n.v) = true then yes else no) s').1 + j + 1, (ex d b (if V.holdsV (codeI n.o) (V.lo (C.an x n.m)) (V.lo n.v) = true then yes else no) s').2) else ((ex d b no t).1 + 1, (ex d b no t).2) := fun b => by
        have := ex_jump d 21 (V.hi n.v) 0 (L.length + no) (L ++ b) t (.inl rfl)
        rw [show ((0 : Nat) : Int) = 0 from rfl] at this
        rw [this, holds21, hta]
        by_cases he : V.hi (C.an x n.m) = V.hi n.v
        · rw [if_pos he, if_pos (by rw [he]; simp), hr b]
        · rw [if_neg he, if_neg (by simpa using he), ex_app]
      rcases hn.o with ho | ho
      · rw [if_pos ho, List.nil_append]
        by_cases he : V.hi (C.an x n.m) = V.hi n.v
        · refine ⟨j + 1 + k, s', by omega, fun b => ?_⟩
          rw [List.append_assoc, List.append_assoc, hw]
          show ((ex d (⟨21, 0, (L.length + no : Nat), V.hi n.v⟩ :: (L ++ b)) 0 t).1 + k, (ex d (⟨21, 0, (L.length + no : Nat), V.hi n.v⟩ :: (L ++ b)) 0 t).2) = _
          rw [last b, if_pos he]
          have key : V.holdsV (codeI n.o) (V.lo (C.an x n.m)) (V.lo n.v) = heldY n x := by
            unfold heldY
            rw [ho]
            show V.holdsV 21 _ _ = C.heldB 1 _ _
            rw [holds21, held1, Bool.eq_iff_iff, beq_iff_eq, beq_iff_eq, halves_eq (x := C.an x n.m)]
            simp [he]
          rw [key]
          exact congrArg (fun z => (z, _)) (by omega)
        · refine ⟨1 + k, t, by omega, fun b => ?_⟩
          rw [List.append_assoc, List.append_assoc, hw]
          show ((ex d (⟨21, 0, (L.length + no : Nat), V.hi n.v⟩ :: (L ++ b)) 0 t).1 + k, (ex d (⟨21, 0, (L.length + no : Nat), V.hi n.v⟩ :: (L ++ b)) 0 t).2) = _
          rw [last b, if_neg he]
          have key : heldY n x = false := by
            unfold heldY
            rw [ho, held1, beq_eq_false_iff_ne]
            exact fun e => he (by rw [e])
          rw [key, if_neg (by decide)]
          exact congrArg (fun z => (z, _)) (by omega)
      · have ho1 : n.o ≠ 1 := by rcases ho with h | h <;> rw [h] <;> decide
        rw [if_neg ho1]
        have first : ∀ b, ex d (⟨37, (1 + L.length + yes : Nat), 0, V.hi n.v⟩ :: ⟨21, 0, (L.length + no : Nat), V.hi n.v⟩ :: (L ++ b)) 0 t = if V.hi n.v < V.hi (C.an x n.m) then ((ex d b yes t).1 + 1, (ex d b yes t).2) else ((ex d (⟨21, 0, (L.length + no : Nat), V.hi n.v⟩ :: (L ++ b)) 0 t).1 + 1, (ex d (⟨21, 0, (L.length + no : Nat), V.hi n.v⟩ :: (L ++ b)) 0 t).2) := fun b => by
          have := ex_jump d 37 (V.hi n.v) (1 + L.length + yes) 0 (⟨21, 0, (L.length + no : Nat), V.hi n.v⟩ :: (L ++ b)) t (.inr (.inl rfl))
          rw [show ((0 : Nat) : Int) = 0 from rfl] at this
          rw [this, holds37, hta]
          by_cases he : V.hi n.v < V.hi (C.an x n.m)
          · rw [if_pos he, if_pos (by simpa using he), show 1 + L.length + yes = (L.length + yes) + 1 from by omega, ex_succ, ex_app]
          · rw [if_neg he, if_neg (by simpa using he)]
        rcases Int.lt_trichotomy (V.hi n.v) (V.hi (C.an x n.m)) with he | he | he
        · refine ⟨1 + k, t, by omega, fun b => ?_⟩
          rw [List.append_assoc, List.append_assoc, hw]
          show ((ex d (⟨37, (1 + L.length + yes : Nat), 0, V.hi n.v⟩ :: ⟨21, 0, (L.length + no : Nat), V.hi n.v⟩ :: (L ++ b)) 0 t).1 + k, (ex d (⟨37, (1 + L.length + yes : Nat), 0, V.hi n.v⟩ :: ⟨21, 0, (L.length + no : Nat), V.hi n.v⟩ :: (L ++ b)) 0 t).2) = _
          rw [first b, if_pos he]
          have key : heldY n x = true := by
            unfold heldY
            rcases ho with ho | ho
            · rw [ho, held5, decide_eq_true_iff, halves_lt (x := n.v)]; omega
            · rw [ho, held6, decide_eq_true_iff, halves_le (x := n.v)]; omega
          rw [key, if_pos rfl]
          exact congrArg (fun z => (z, _)) (by omega)
        · refine ⟨j + 1 + 1 + k, s', by omega, fun b => ?_⟩
          rw [List.append_assoc, List.append_assoc, hw]
          show ((ex d (⟨37, (1 + L.length + yes : Nat), 0, V.hi n.v⟩ :: ⟨21, 0, (L.length + no : Nat), V.hi n.v⟩ :: (L ++ b)) 0 t).1 + k, (ex d (⟨37, (1 + L.length + yes : Nat), 0, V.hi n.v⟩ :: ⟨21, 0, (L.length + no : Nat), V.hi n.v⟩ :: (L ++ b)) 0 t).2) = _
          rw [first b, if_neg (by omega), last b, if_pos he.symm]
          have key : V.holdsV (codeI n.o) (V.lo (C.an x n.m)) (V.lo n.v) = heldY n x := by
            unfold heldY
            rcases ho with ho | ho
            · rw [ho]
              show V.holdsV 37 _ _ = C.heldB 5 _ _
              rw [holds37, held5, Bool.eq_iff_iff, decide_eq_true_iff, decide_eq_true_iff, halves_lt (x := n.v)]
              omega
            · rw [ho]
              show V.holdsV 53 _ _ = C.heldB 6 _ _
              rw [holds53, held6, Bool.eq_iff_iff, decide_eq_true_iff, decide_eq_true_iff, halves_le (x := n.v)]
              omega
          rw [key]
          exact congrArg (fun z => (z, _)) (by omega)
        · refine ⟨1 + 1 + k, t, by omega, fun b => ?_⟩
          rw [List.append_assoc, List.append_assoc, hw]
          show ((ex d (⟨37, (1 + L.length + yes : Nat), 0, V.hi n.v⟩ :: ⟨21, 0, (L.length + no : Nat), V.hi n.v⟩ :: (L ++ b)) 0 t).1 + k, (ex d (⟨37, (1 + L.length + yes : Nat), 0, V.hi n.v⟩ :: ⟨21, 0, (L.length + no : Nat), V.hi n.v⟩ :: (L ++ b)) 0 t).2) = _
          rw [first b, if_neg (by omega), last b, if_neg (by omega)]
          have key : heldY n x = false := by
            unfold heldY
            rcases ho with ho | ho
            · rw [ho, held5, decide_eq_false_iff_not, halves_lt (x := n.v)]; omega
            · rw [ho, held6, decide_eq_false_iff_not, halves_le (x := n.v)]; omega
          rw [key, if_neg (by decide)]
          exact congrArg (fun z => (z, _)) (by omega)

theorem test_run (d : V.Da) (hd : d.ok) (g : Int) (h0 : 0 ≤ g) (h5 : g < 6) (n : C.No) (hn : Fit n) (rest : Nat) (s : V.St) :
    Fall d (testI g n rest) s 7 (if C.isN n (d.g.getD g.toNat 0) = true then 0 else rest) := by
  rw [hn.is]
  unfold testI
  cases hc : n.no with
  | true =>
    rw [if_pos rfl]
    have := testY_run d hd g h0 h5 n hn rest 0 s
    cases hh : heldY n (d.g.getD g.toNat 0) with
    | true => rw [hh, if_pos rfl] at this; exact this
    | false => rw [hh, if_neg (by decide)] at this; exact this
  | false =>
    rw [if_neg (by decide)]
    have := testY_run d hd g h0 h5 n hn 0 rest s
    cases hh : heldY n (d.g.getD g.toNat 0) with
    | true => rw [hh, if_pos rfl] at this; exact this
    | false => rw [hh, if_neg (by decide)] at this; exact this

/-- nothing is wrong with it. -/
theorem u32_ok {c k : Int} {t f : Nat} (hc : 0 ≤ c ∧ c ≤ 65535) (ht : t ≤ 255) (hf : f ≤ 255) (hk : V.U32 k) : V.In.ok ⟨c, t, f, k⟩ := by
  unfold V.In.ok
  exact ⟨hc, by dsimp only; omega, by dsimp only; omega, hk⟩
theorem ask_bd {c : Int} (h : Ask c) : 0 ≤ c ∧ c ≤ 65535 := by
  rcases h with rfl | rfl | rfl <;> decide
theorem word_gd (p m : Int) (b : Nat) (hb : 0 < b) (hp : p % 4 = 0) (h0 : 0 ≤ p) (h6 : p < 64) (hm : V.U32 m) : Gd b (wordI p m) := by
  have hpu : V.U32 p := ⟨h0, by omega⟩
  unfold wordI
  split
  · exact ⟨⟨u32_ok (t := 0) (f := 0) (by decide) (by decide) (by decide) hpu, fault_ld p _ hp h6 (by omega)⟩, trivial⟩
  · exact ⟨⟨u32_ok (t := 0) (f := 0) (by decide) (by decide) (by decide) hpu, fault_ld p _ hp h6 (by omega)⟩, ⟨u32_ok (t := 0) (f := 0) (by decide) (by decide) (by decide) hm, fault_and m _ (by omega)⟩, trivial⟩
theorem jump_gd (c k : Int) (t f b : Nat) (hc : Ask c) (ht : t ≤ 255) (hf : f ≤ 255) (hk : V.U32 k) (htb : t < b) (hfb : f < b) : Gd b [⟨c, t, f, k⟩] :=
  ⟨⟨u32_ok (ask_bd hc) ht hf hk, fault_jump c k t f _ hc (by omega) (by omega)⟩, trivial⟩
theorem testY_gd (g : Int) (h0 : 0 ≤ g) (h5 : g < 6) (n : C.No) (hn : Fit n) (yes no b : Nat) (hy : yes < b) (ho : no < b) (hy2 : yes ≤ 200) (ho2 : no ≤ 200) : Gd b (testY g n yes no) := by
  have hlow : Gd b (lowI g n yes no) := by
    unfold lowI
    exact Gd.app (word_gd _ _ _ (by simp; omega) (by omega) (by omega) (by omega) (V.lo_u _)) (jump_gd _ _ yes no _ (code_ask _) (by omega) (by omega) (V.lo_u _) hy ho)
  unfold testY
  split
  · exact Gd.app (word_gd _ _ _ (by simp; omega) (by omega) (by omega) (by omega) (V.hi_u _ hn.m)) (jump_gd _ _ yes no _ (hi_ask ..) (by omega) (by omega) (V.hi_u _ hn.v) hy ho)
  · split
    · exact hlow
    · refine Gd.app ?_ hlow
      have hL := low_len g n yes no
      unfold highI
      refine Gd.app (word_gd _ _ _ (by simp; omega) (by omega) (by omega) (by omega) (V.hi_u _ hn.m)) ?_
      have h21 : Gd ((lowI g n yes no).length + b) [⟨21, 0, ((lowI g n yes no).length + no : Nat), V.hi n.v⟩] :=
        jump_gd 21 _ 0 ((lowI g n yes no).length + no) _ (.inl rfl) (by omega) (by omega) (V.hi_u _ hn.v) (by omega) (by omega)
      split
      · exact h21
      · refine Gd.app ?_ h21
        exact jump_gd 37 _ (1 + (lowI g n yes no).length + yes) 0 _ (.inr (.inl rfl)) (by omega) (by omega) (V.hi_u _ hn.v) (by simp; omega) (by simp; omega)
theorem test_gd (g : Int) (h0 : 0 ≤ g) (h5 : g < 6) (n : C.No) (hn : Fit n) (rest b : Nat) (hy : rest < b) (hr : rest ≤ 200) : Gd b (testI g n rest) := by
  unfold testI
  split
  · exact testY_gd g h0 h5 n hn rest 0 b hy (by omega) hr (by omega)
  · exact testY_gd g h0 h5 n hn 0 rest b (by omega) hy (by omega) hr

end Go.Proofs.YtpojlfenmanehaaGreat

namespace Go.Proofs.YtpojlfenmanehaaGreat
open Go.RowKit

/-- an act, told. -/
def ansI (k a : Int) : V.In := ⟨6, 0, 0, A.valZ k a⟩
/-- a condition's form. -/
def nrm (c : M.Xc) : C.No := C.normN c.arg c.op c.mask c.val
/-- a rule's conditions and its act; none: one of them never holds. -/
def decC (k a : Int) : List M.Xc → Option (List V.In)
  | [] => some [ansI k a]
  | c :: cs =>
    match decC k a cs with
    | none => none
    | some l => if (nrm c).m = 0 then (if C.isN (nrm c) 0 = true then some l else none) else some (testI c.arg (nrm c) l.length ++ l)
def decI (x : M.Xl) : List V.In := (decC x.k x.a x.conds).getD []

/-- may a condition be, and do its numbers fit? -/
def Cok (c : M.Xc) : Prop := M.condB c = true ∧ V.U64 c.mask ∧ V.U64 c.val

theorem condB_right (c : M.Xc) (h : M.condB c = true) : C.rightB c.arg c.op = true ∧ 0 ≤ c.arg ∧ c.arg < 6 := by
  unfold M.condB at h
  simp only [Bool.and_eq_true, decide_eq_true_eq] at h
  obtain ⟨⟨⟨h1, h2⟩, h3⟩, h4⟩ := h
  exact ⟨by unfold C.rightB; simp [h1, h2, h3, h4], h1, h2⟩

/-- the bits outside of a mask. -/
theorem outB_false {v m : Int} (hv : V.U64 v) (hm : V.U64 m) (h : C.outB v m = false) : (V.lo m = 0 → V.lo v = 0) ∧ (V.hi m = 0 → V.hi v = 0) := by
  have h2 := C.out_or hv hm
  rw [h] at h2
  obtain ⟨a, rfl, ha⟩ := C.nat_of hv
  obtain ⟨b, rfl, hb⟩ := C.nat_of hm
  have h3 : bits BinOp.or IntKind.u64 (a : Int) (b : Int) = ((a ||| b : Nat) : Int) := bits_or_u64_nat a b ha hb
  rw [h3] at h2
  have h4 : a ||| b = b := by
    have : (((a ||| b : Nat) : Int) == (b : Int)) = true := by
      cases hq : (((a ||| b : Nat) : Int) == (b : Int)) with
      | true => rfl
      | false => rw [hq] at h2; cases h2
    have := beq_iff_eq.1 this
    omega
  constructor
  · intro h0
    unfold V.lo at *
    have e1 : b % 2 ^ 32 = 0 := by omega
    have e2 := Nat.or_mod_two_pow (a := a) (b := b) (n := 32)
    rw [h4, e1, Nat.or_zero] at e2
    omega
  · intro h0
    unfold V.hi at *
    have e1 : b / 2 ^ 32 = 0 := by omega
    have e2 := Nat.or_div_two_pow (a := a) (b := b) (n := 32)
    rw [h4, e1, Nat.or_zero] at e2
    omega

/-- a form with a bit in its mask. -/
theorem form_fit {o m v : Int} (ho : C.hasF o = true) (hm : V.U64 m) (hv : V.U64 v) (hz : (C.formN o m v).m ≠ 0) : Fit (C.formN o m v) ∧ (C.formN o m v).no = false := by
  unfold C.formN at *
  by_cases h1 : ((o == 1 && C.outB v m) || (o == 5 && decide (m ≤ v)) || (o == 6 && decide (m < v))) = true
  · rw [if_pos h1] at hz; exact absurd rfl hz
  · rw [if_neg h1] at hz ⊢
    by_cases h2 : (o == 6 && v == 0) = true
    · rw [if_pos h2] at hz; exact absurd rfl hz
    · rw [if_neg h2] at hz ⊢
      have h1' : ((o == 1 && C.outB v m) || (o == 5 && decide (m ≤ v)) || (o == 6 && decide (m < v))) = false := by simpa using h1
      simp only [Bool.or_eq_false_iff, Bool.and_eq_false_iff] at h1'
      obtain ⟨⟨q1, q2⟩, q3⟩ := h1'
      have ho' : o = 1 ∨ o = 5 ∨ o = 6 := by
        unfold C.hasF at ho
        simp only [Bool.or_eq_true, beq_iff_eq] at ho
        omega
      have hq : o = 1 → C.outB v m = false := fun e => by
        rcases q1 with q1 | q1
        · rw [e] at q1; cases q1
        · exact q1
      refine ⟨⟨rfl, rfl, ho', hm, hv, fun e => (outB_false hv hm (hq e)).1, fun e => (outB_false hv hm (hq e)).2, fun e => ?_, hz⟩, rfl⟩
      dsimp only at e ⊢
      rcases ho' with e1 | e1 | e1
      · exact absurd e1 e
      · rcases q2 with q2 | q2
        · rw [e1] at q2; cases q2
        · have := of_decide_eq_false q2; omega
      · rcases q3 with q3 | q3
        · rw [e1] at q3; cases q3
        · have := of_decide_eq_false q3; omega
theorem Fit.turn {n : C.No} (h : Fit n) : Fit (C.turn n) := by
  have ha : n.same C.always = false := by
    cases hs : n.same C.always with
    | false => rfl
    | true => have := (C.No.same_iff _ _).1 hs; have h2 := h.al; rw [this] at h2; cases h2
  have hn : n.same C.never = false := by
    cases hs : n.same C.never with
    | false => rfl
    | true => have := (C.No.same_iff _ _).1 hs; have h2 := h.ne; rw [this] at h2; cases h2
  unfold C.turn
  rw [ha, hn, if_neg (by decide), if_neg (by decide)]
  exact ⟨h.al, h.ne, h.o, h.m, h.v, h.eq, h.eq', h.le, h.bit⟩
theorem turn_m (n : C.No) (h : (C.turn n).m ≠ 0) : n.m ≠ 0 := by
  unfold C.turn at h
  split at h
  · exact absurd rfl h
  · split at h
    · exact absurd rfl h
    · exact h
theorem nrm_fit (c : M.Xc) (h : Cok c) (hz : (nrm c).m ≠ 0) : Fit (nrm c) := by
  obtain ⟨hr, _, _⟩ := condB_right c h.1
  have hb := C.right_bd hr
  unfold nrm C.normN at *
  rw [if_pos hr] at hz ⊢
  by_cases ho : C.hasF c.op = true
  · rw [if_pos ho] at hz ⊢
    exact (form_fit ho h.2.1 h.2.2 hz).1
  · rw [if_neg ho] at hz ⊢
    have ho' : C.hasF c.op = false := by simpa using ho
    exact (form_fit (C.opp_has hb.2.2.1 hb.2.2.2 ho') h.2.1 h.2.2 (turn_m _ hz)).1.turn
/-- without a bit in its mask it holds of all numbers as of 0. -/
theorem an_zero (x : Int) (hx : V.U64 x) : C.an x 0 = 0 := by
  have := C.an_bd (x := x) (m := 0) hx ⟨by decide, by decide⟩
  omega
theorem nrm_zero (c : M.Xc) (hz : (nrm c).m = 0) (x : Int) (hx : V.U64 x) : C.isN (nrm c) x = C.isN (nrm c) 0 := by
  unfold C.isN
  rw [hz, an_zero x hx, an_zero 0 ⟨by decide, by decide⟩]

/-- a call, as the other texts have it. -/
def toV (d : M.Da) : V.Da := ⟨d.n, d.a, d.p, d.g⟩
theorem toV_ok {d : M.Da} (h : d.ok) : (toV d).ok := h
theorem hB_is (d : M.Da) (hd : d.ok) (c : M.Xc) (h : Cok c) : M.hB d c = C.isN (nrm c) ((toV d).g.getD c.arg.toNat 0) := by
  obtain ⟨hr, _, _⟩ := condB_right c h.1
  unfold nrm
  rw [C.norm_is hr (arg_u (toV d) (toV_ok hd) _) h.2.2 h.2.1]
  unfold M.hB M.holdN
  have : M.rightB c.arg c.op = true := hr
  rw [this]
  rfl

theorem dec_len (k a : Int) : ∀ (cs : List M.Xc) (l : List V.In), decC k a cs = some l → 1 ≤ l.length ∧ l.length ≤ 7 * cs.length + 1
  | [], l, h => by
    cases h
    simp
  | c :: cs, l, h => by
    unfold decC at h
    cases hq : decC k a cs with
    | none => rw [hq] at h; cases h
    | some r =>
      rw [hq] at h
      have ih := dec_len k a cs r hq
      dsimp only at h
      rw [List.length_cons]
      split at h
      · split at h
        · cases h; omega
        · cases h
      · cases h
        have := testI_len c.arg (nrm c) r.length
        rw [List.length_append]
        omega
theorem dec_head (k a : Int) : ∀ (cs : List M.Xc) (l : List V.In), decC k a cs = some l → (l = [ansI k a] ∧ ∀ (d : M.Da), d.ok → (∀ c ∈ cs, Cok c) → cs.all (M.hB d) = true) ∨ ∃ p r, l = ⟨32, 0, 0, p⟩ :: r
  | [], l, h => by
    cases h
    exact .inl ⟨rfl, fun _ _ _ => rfl⟩
  | c :: cs, l, h => by
    unfold decC at h
    cases hq : decC k a cs with
    | none => rw [hq] at h; cases h
    | some r =>
      rw [hq] at h
      have ih := dec_head k a cs r hq
      dsimp only at h
      split at h
      · rename_i hz
        split at h
        · rename_i hi
          cases h
          rcases ih with ⟨e, ih⟩ | ih
          · refine .inl ⟨e, fun d hd hc => ?_⟩
            have hc0 := hc c (List.mem_cons_self ..)
            rw [List.all_cons, ih d hd (fun x hx => hc x (List.mem_cons_of_mem _ hx)), hB_is d hd c hc0, nrm_zero c hz _ (arg_u (toV d) (toV_ok hd) _), hi]
            rfl
          · exact .inr ih
        · cases h
      · cases h
        obtain ⟨p, q, e⟩ := testI_head c.arg (nrm c) r.length
        rw [e]
        exact .inr ⟨_, _, rfl⟩
theorem dec_none (d : M.Da) (hd : d.ok) (k a : Int) : ∀ (cs : List M.Xc), (∀ c ∈ cs, Cok c) → decC k a cs = none → cs.all (M.hB d) = false
  | [], _, h => by cases h
  | c :: cs, hc, h => by
    have hc0 := hc c (List.mem_cons_self ..)
    have hc1 : ∀ x ∈ cs, Cok x := fun x hx => hc x (List.mem_cons_of_mem _ hx)
    unfold decC at h
    rw [List.all_cons]
    cases hq : decC k a cs with
    | none => rw [dec_none d hd k a cs hc1 hq, Bool.and_false]
    | some r =>
      rw [hq] at h
      dsimp only at h
      split at h
      · rename_i hz
        split at h
        · cases h
        · rename_i hi
          rw [hB_is d hd c hc0, nrm_zero c hz _ (arg_u (toV d) (toV_ok hd) _)]
          simp [hi]
      · cases h
theorem dec_run (d : M.Da) (hd : d.ok) (k a : Int) : ∀ (cs : List M.Xc) (l : List V.In), (∀ c ∈ cs, Cok c) → decC k a cs = some l → ∀ s : V.St,
    (cs.all (M.hB d) = true → Stop (toV d) l s (7 * cs.length + 1) (A.valZ k a)) ∧ (cs.all (M.hB d) = false → Fall (toV d) l s (7 * cs.length) 0)
  | [], l, _, h, s => by
    cases h
    exact ⟨fun _ => ⟨1, by simp, fun b => ex_ret _ _ _ _⟩, fun h => by cases h⟩
  | c :: cs, l, hc, h, s => by
    have hc0 := hc c (List.mem_cons_self ..)
    have hc1 : ∀ x ∈ cs, Cok x := fun x hx => hc x (List.mem_cons_of_mem _ hx)
    obtain ⟨hr, ha0, ha5⟩ := condB_right c hc0.1
    unfold decC at h
    rw [List.all_cons, List.length_cons, hB_is d hd c hc0]
    cases hq : decC k a cs with
    | none => rw [hq] at h; cases h
    | some r =>
      rw [hq] at h
      have ih := dec_run d hd k a cs r hc1 hq
      dsimp only at h
      split at h
      · rename_i hz
        split at h
        · rename_i hi
          cases h
          rw [nrm_zero c hz _ (arg_u (toV d) (toV_ok hd) _), hi, Bool.true_and]
          refine ⟨fun e => ?_, fun e => ?_⟩
          · obtain ⟨n, hn, hx⟩ := (ih s).1 e
            exact ⟨n, by omega, hx⟩
          · obtain ⟨n, s', hn, hx⟩ := (ih s).2 e
            exact ⟨n, s', by omega, hx⟩
        · cases h
      · rename_i hz
        cases h
        obtain ⟨n, s', hn, hx⟩ := test_run (toV d) (toV_ok hd) c.arg ha0 ha5 (nrm c) (nrm_fit c hc0 hz) r.length s
        cases hi : C.isN (nrm c) ((toV d).g.getD c.arg.toNat 0) with
        | true =>
          rw [hi, if_pos rfl] at hx
          rw [Bool.true_and]
          refine ⟨fun e => ?_, fun e => ?_⟩
          · obtain ⟨n2, hn2, hx2⟩ := (ih s').1 e
            refine ⟨n2 + n, by omega, fun b => ?_⟩
            rw [List.append_assoc, hx, hx2]
          · obtain ⟨n2, s2, hn2, hx2⟩ := (ih s').2 e
            refine ⟨n2 + n, s2, by omega, fun b => ?_⟩
            rw [List.append_assoc, hx, hx2]
            exact congrArg (fun z => (z, _)) (by omega)
        | false =>
          rw [hi, if_neg (by decide)] at hx
          rw [Bool.false_and]
          refine ⟨fun e => (Bool.noConfusion e), fun _ => ⟨n, s', by omega, fun b => ?_⟩⟩
          rw [List.append_assoc, hx]
          have := ex_app (toV d) r b 0 s'
          rw [Nat.add_zero] at this
          rw [this]
/-- acts that may be. -/
theorem actB_right {k a : Int} (h : M.actB k a = true) : A.rightB k a = true := by
  unfold M.actB at h
  unfold A.rightB
  simp only [Bool.and_eq_true, decide_eq_true_eq] at h
  obtain ⟨⟨h1, h2⟩, h3⟩ := h
  have hh : M.hasN k = A.hasB k := rfl
  rw [hh] at h3
  simp only [h1, h2, decide_true, Bool.true_and]
  cases hq : A.hasB k with
  | true => rw [hq] at h3; simp at h3; simp [h3]
  | false => rw [hq] at h3; simp at h3; simp [h3]
theorem val_u (k a : Int) : V.U32 (A.valZ k a) := by
  unfold A.valZ
  split
  · rename_i h
    have := (A.back h).2.2
    unfold A.valZ at this
    rw [if_pos h] at this
    exact this
  · exact ⟨by decide, by decide⟩
theorem ans_gd (k a : Int) (b : Nat) : Gd b [ansI k a] :=
  ⟨⟨u32_ok (t := 0) (f := 0) (by decide) (by decide) (by decide) (val_u k a), fault_ret _ _⟩, trivial⟩
theorem dec_gd (k a : Int) : ∀ (cs : List M.Xc) (l : List V.In), (∀ c ∈ cs, Cok c) → cs.length ≤ 20 → decC k a cs = some l → ∀ b, 0 < b → Gd b l
  | [], l, _, _, h, b, _ => by
    cases h
    exact ans_gd k a b
  | c :: cs, l, hc, hl, h, b, hb => by
    have hc0 := hc c (List.mem_cons_self ..)
    have hc1 : ∀ x ∈ cs, Cok x := fun x hx => hc x (List.mem_cons_of_mem _ hx)
    obtain ⟨hr, ha0, ha5⟩ := condB_right c hc0.1
    rw [List.length_cons] at hl
    unfold decC at h
    cases hq : decC k a cs with
    | none => rw [hq] at h; cases h
    | some r =>
      rw [hq] at h
      have ih := dec_gd k a cs r hc1 (by omega) hq b hb
      have hlen := dec_len k a cs r hq
      dsimp only at h
      split at h
      · split at h
        · cases h; exact ih
        · cases h
      · rename_i hz
        cases h
        exact Gd.app (test_gd c.arg ha0 ha5 (nrm c) (nrm_fit c hc0 hz) r.length _ (by omega) (by omega)) ih

/-- does the first of instructions end a run? -/
def endsH (l : List V.In) : Bool := match l with | x :: _ => V.isIn V.endL x.c | [] => false
/-- the rules for the calls of one number. -/
def verI (z k a : Int) : List M.Xl → List V.In
  | [] => [ansI k a]
  | x :: r => if M.namedB z x.names = true then (if endsH (decI x) = true then decI x else decI x ++ verI z k a r) else verI z k a r

/-- rules that may be. -/
def Xok (x : M.Xl) : Prop := x.conds.length ≤ 20 ∧ ∀ c ∈ x.conds, Cok c

theorem decI_ends (x : M.Xl) (h : endsH (decI x) = true) : decI x = [ansI x.k x.a] ∧ decC x.k x.a x.conds = some [ansI x.k x.a] := by
  unfold decI at *
  cases hq : decC x.k x.a x.conds with
  | none => rw [hq] at h; cases h
  | some l =>
    rw [hq] at h
    rcases dec_head x.k x.a x.conds l hq with ⟨e, _⟩ | ⟨p, r, e⟩
    · subst e; exact ⟨rfl, rfl⟩
    · subst e; exact Bool.noConfusion (show false = true from h)

/-- how far a run may go through the rules for a call. -/
def mostR (z : Int) (l : List M.Xl) : Nat := (l.map fun x => if M.namedB z x.names = true then 20 * x.conds.length + 2 else 0).sum
theorem mostR_cons (z : Int) (x : M.Xl) (l : List M.Xl) : mostR z (x :: l) = (if M.namedB z x.names = true then 20 * x.conds.length + 2 else 0) + mostR z l := by
  unfold mostR
  rw [List.map_cons, List.sum_cons]

theorem ver_run (d : M.Da) (hd : d.ok) (k a : Int) : ∀ (l : List M.Xl), (∀ x ∈ l, Xok x) → ∀ s : V.St, Stop (toV d) (verI d.n k a l) s (mostR d.n l + 1) (A.valZ (M.verdF d k a l).1 (M.verdF d k a l).2)
  | [], _, s => ⟨1, by omega, fun b => ex_ret _ _ _ _⟩
  | x :: l, hl, s => by
    have hx := hl x (List.mem_cons_self ..)
    have ih := ver_run d hd k a l fun y hy => hl y (List.mem_cons_of_mem _ hy)
    unfold verI M.verdF M.meetB
    rw [mostR_cons]
    cases hn : M.namedB d.n x.names with
    | false =>
      rw [if_neg (by decide), if_neg (by decide), Bool.false_and, if_neg (by decide)]
      obtain ⟨n, h1, h2⟩ := ih s
      exact ⟨n, by omega, h2⟩
    | true =>
      rw [if_pos rfl, if_pos rfl, Bool.true_and]
      by_cases he : endsH (decI x) = true
      · rw [if_pos he]
        obtain ⟨e1, e2⟩ := decI_ends x he
        rcases dec_head x.k x.a x.conds _ e2 with ⟨_, hall⟩ | ⟨p, r, e⟩
        · rw [hall d hd hx.2, if_pos rfl, e1]
          exact ⟨1, by omega, fun b => ex_ret _ _ _ _⟩
        · exact absurd (List.cons.inj e).1 (by unfold ansI; simp)
      · rw [if_neg he]
        unfold decI
        cases hq : decC x.k x.a x.conds with
        | none =>
          rw [dec_none d hd x.k x.a x.conds hx.2 hq, if_neg (by decide)]
          obtain ⟨n, h1, h2⟩ := ih s
          exact ⟨n, by omega, h2⟩
        | some m =>
          have hr := dec_run d hd x.k x.a x.conds m hx.2 hq s
          show Stop (toV d) (m ++ verI d.n k a l) s _ _
          cases ha : x.conds.all (M.hB d) with
          | true =>
            rw [if_pos rfl]
            obtain ⟨n, h1, h2⟩ := hr.1 ha
            refine ⟨n, by omega, fun b => ?_⟩
            rw [List.append_assoc, h2]
          | false =>
            rw [if_neg (by decide)]
            obtain ⟨n, s', h1, h2⟩ := hr.2 ha
            obtain ⟨n2, h3, h4⟩ := ih s'
            refine ⟨n2 + n, by omega, fun b => ?_⟩
            rw [List.append_assoc, h2, h4]

theorem ver_pos (z k a : Int) : ∀ (l : List M.Xl), 0 < (verI z k a l).length
  | [] => Nat.one_pos
  | x :: l => by
    have ih := ver_pos z k a l
    unfold verI
    split
    · split
      · rename_i h; rw [(decI_ends x h).1]; exact Nat.one_pos
      · rw [List.length_append]; omega
    · exact ih
theorem ver_gd (z k a : Int) (b : Nat) : ∀ (l : List M.Xl), (∀ x ∈ l, Xok x) → Gd b (verI z k a l)
  | [], _ => ans_gd k a b
  | x :: l, hl => by
    have hx := hl x (List.mem_cons_self ..)
    have ih := ver_gd z k a b l fun y hy => hl y (List.mem_cons_of_mem _ hy)
    have hp := ver_pos z k a l
    unfold verI
    split
    · split
      · rename_i h; rw [(decI_ends x h).1]; exact ans_gd _ _ _
      · refine Gd.app ?_ ih
        unfold decI
        cases hq : decC x.k x.a x.conds with
        | none => exact trivial
        | some m => exact dec_gd x.k x.a x.conds m hx.2 hx.1 hq _ (by omega)
    · exact ih
theorem decI_len (x : M.Xl) : (decI x).length ≤ 7 * x.conds.length + 1 := by
  unfold decI
  cases hq : decC x.k x.a x.conds with
  | none => exact Nat.zero_le _
  | some m => exact (dec_len x.k x.a x.conds m hq).2
/-- how long the rules for one number are. -/
def lenR (z : Int) (l : List M.Xl) : Nat := (l.map fun x => if M.namedB z x.names = true then 7 * x.conds.length + 1 else 0).sum
theorem lenR_cons (z : Int) (x : M.Xl) (l : List M.Xl) : lenR z (x :: l) = (if M.namedB z x.names = true then 7 * x.conds.length + 1 else 0) + lenR z l := by
  unfold lenR
  rw [List.map_cons, List.sum_cons]
theorem ver_len (z k a : Int) : ∀ (l : List M.Xl), (verI z k a l).length ≤ lenR z l + 1
  | [] => by simp [verI]
  | x :: l => by
    have ih := ver_len z k a l
    have hd := decI_len x
    unfold verI
    rw [lenR_cons]
    split
    · split
      · omega
      · rw [List.length_append]; omega
    · omega

end Go.Proofs.YtpojlfenmanehaaGreat

namespace Go.Proofs.YtpojlfenmanehaaGreat
open Go.RowKit

/-- one of two programs. -/
def forkI (z : Int) (a b : List V.In) : List V.In :=
  (if a.length ≤ 255 then [⟨53, (a.length : Nat), 0, z⟩] else [⟨53, 0, 1, z⟩, ⟨5, 0, 0, (a.length : Nat)⟩]) ++ (a ++ b)
/-- the search in a part of the numbers. -/
def amG (ns : List Int) (F : Int → List V.In) (e : V.In) : Nat → Nat → Nat → List V.In
  | 0, a, _ => [⟨21, 1, 0, ns.getD a 0⟩, e] ++ F (ns.getD a 0)
  | n + 1, a, b => if b - a < 2 then [⟨21, 1, 0, ns.getD a 0⟩, e] ++ F (ns.getD a 0) else forkI (ns.getD (T.mid a b) 0) (amG ns F e n a (T.mid a b)) (amG ns F e n (T.mid a b) b)
theorem amG_more (ns : List Int) (F : Int → List V.In) (e : V.In) (k : Nat) : ∀ j a b, b - a ≤ k → b - a ≤ j → amG ns F e k a b = amG ns F e j a b := by
  induction k with
  | zero =>
    intro j a b h1 _
    cases j with
    | zero => rfl
    | succ j => unfold amG; rw [if_pos (by omega)]
  | succ k ih =>
    intro j a b h1 h2
    cases j with
    | zero => unfold amG; rw [if_pos (by omega)]
    | succ j =>
      unfold amG
      split
      · rfl
      · have := T.mid_lt (a := a) (b := b) (by omega)
        rw [ih j a _ (by omega) (by omega), ih j _ b (by omega) (by omega)]
def amI (ns : List Int) (F : Int → List V.In) (e : V.In) (a b : Nat) : List V.In := if b - a = 0 then [e] else amG ns F e (b - a) a b
theorem am_none {ns : List Int} {F : Int → List V.In} {e : V.In} {a b : Nat} (h : b - a = 0) : amI ns F e a b = [e] := by unfold amI; rw [if_pos h]
theorem am_one {ns : List Int} {F : Int → List V.In} {e : V.In} {a b : Nat} (h : b - a = 1) : amI ns F e a b = [⟨21, 1, 0, ns.getD a 0⟩, e] ++ F (ns.getD a 0) := by
  unfold amI
  rw [if_neg (by omega), h]
  show (if b - a < 2 then _ else _) = _
  rw [if_pos (by omega)]
theorem am_two {ns : List Int} {F : Int → List V.In} {e : V.In} {a b : Nat} (h : 2 ≤ b - a) : amI ns F e a b = forkI (ns.getD (T.mid a b) 0) (amI ns F e a (T.mid a b)) (amI ns F e (T.mid a b) b) := by
  have hm := T.mid_lt h
  unfold amI
  rw [if_neg (by omega), if_neg (by omega), if_neg (by omega)]
  obtain ⟨n, hn⟩ : ∃ n, b - a = n + 1 := ⟨b - a - 1, by omega⟩
  rw [hn]
  show (if b - a < 2 then _ else _) = _
  rw [if_neg (by omega), amG_more ns F e n (T.mid a b - a) a _ (by omega) (by omega), amG_more ns F e n (b - T.mid a b) _ b (by omega) (by omega)]

theorem fork_run (d : V.Da) (z : Int) (a b : List V.In) (s : V.St) (r : List V.In) : ∃ n, n ≤ 2 ∧
    ex d (forkI z a b ++ r) 0 s = if z ≤ s.a then ((ex d (b ++ r) 0 s).1 + n, (ex d (b ++ r) 0 s).2) else ((ex d (a ++ (b ++ r)) 0 s).1 + n, (ex d (a ++ (b ++ r)) 0 s).2) := by
  unfold forkI
  have happ := ex_app d a (b ++ r) 0 s
  rw [Nat.add_zero] at happ
  by_cases h : a.length ≤ 255
  · rw [if_pos h]
    refine ⟨1, by decide, ?_⟩
    show ex d (⟨53, (a.length : Nat), 0, z⟩ :: ((a ++ b) ++ r)) 0 s = _
    have := ex_jump d 53 z a.length 0 ((a ++ b) ++ r) s (.inr (.inr rfl))
    rw [show ((0 : Nat) : Int) = 0 from rfl] at this
    rw [this, holds53, List.append_assoc]
    by_cases hz : z ≤ s.a
    · rw [if_pos hz, if_pos (by simpa using hz), happ]
    · rw [if_neg hz, if_neg (by simpa using hz)]
  · rw [if_neg h]
    by_cases hz : z ≤ s.a
    · refine ⟨2, by decide, ?_⟩
      show ex d (⟨53, 0, 1, z⟩ :: ⟨5, 0, 0, (a.length : Nat)⟩ :: ((a ++ b) ++ r)) 0 s = _
      have := ex_jump d 53 z 0 1 (⟨5, 0, 0, (a.length : Nat)⟩ :: ((a ++ b) ++ r)) s (.inr (.inr rfl))
      rw [show ((0 : Nat) : Int) = 0 from rfl, show ((1 : Nat) : Int) = 1 from rfl] at this
      rw [this, holds53, if_pos hz, if_pos (by simpa using hz), ex_ja, List.append_assoc, happ]
    · refine ⟨1, by decide, ?_⟩
      show ex d (⟨53, 0, 1, z⟩ :: ⟨5, 0, 0, (a.length : Nat)⟩ :: ((a ++ b) ++ r)) 0 s = _
      have := ex_jump d 53 z 0 1 (⟨5, 0, 0, (a.length : Nat)⟩ :: ((a ++ b) ++ r)) s (.inr (.inr rfl))
      rw [show ((0 : Nat) : Int) = 0 from rfl, show ((1 : Nat) : Int) = 1 from rfl] at this
      rw [this, holds53, if_neg hz, if_neg (by simpa using hz), ex_succ, List.append_assoc]

/-- a search comes to one of the places, between whose numbers the call's is. -/
theorem am_run (d : V.Da) (ns : List Int) (F : Int → List V.In) (e : V.In) (s : V.St) (r : List V.In) (k : Nat) : ∀ a b, a < b → b ≤ ns.length → b - a ≤ 2 ^ k →
    (a = 0 ∨ ns.getD a 0 ≤ s.a) → (b = ns.length ∨ s.a < ns.getD b 0) →
    ∃ p n r', n ≤ 2 * k ∧ T.Ends ns s.a p ∧ ex d (amI ns F e a b ++ r) 0 s = ((ex d ([⟨21, 1, 0, ns.getD p 0⟩, e] ++ F (ns.getD p 0) ++ r') 0 s).1 + n, (ex d ([⟨21, 1, 0, ns.getD p 0⟩, e] ++ F (ns.getD p 0) ++ r') 0 s).2) := by
  induction k generalizing r with
  | zero =>
    intro a b h1 h2 h3 h4 h5
    have hb : b = a + 1 := by
      rw [Nat.pow_zero] at h3
      omega
    subst hb
    refine ⟨a, 0, r, by omega, ⟨by omega, h4.symm, h5⟩, ?_⟩
    rw [am_one (by omega)]
    rfl
  | succ k ih =>
    intro a b h1 h2 h3 h4 h5
    by_cases h6 : b - a < 2
    · have hb : b = a + 1 := by omega
      subst hb
      refine ⟨a, 0, r, by omega, ⟨by omega, h4.symm, h5⟩, ?_⟩
      rw [am_one (by omega)]
      rfl
    · have hm := T.mid_lt (a := a) (b := b) (by omega)
      have hp : 2 ^ (k + 1) = 2 * 2 ^ k := by rw [Nat.pow_succ]; omega
      rw [am_two (by omega)]
      obtain ⟨n, hn, hx⟩ := fork_run d (ns.getD (T.mid a b) 0) (amI ns F e a (T.mid a b)) (amI ns F e (T.mid a b) b) s r
      rw [hx]
      by_cases hz : ns.getD (T.mid a b) 0 ≤ s.a
      · rw [if_pos hz]
        obtain ⟨p, n2, r', q1, q2, q3⟩ := ih r (T.mid a b) b hm.2 h2 (by have : T.mid a b = a + (b - a) / 2 := rfl; omega) (.inr hz) h5
        refine ⟨p, n2 + n, r', by omega, q2, ?_⟩
        rw [q3]
        exact congrArg (fun z => (z, _)) (by omega)
      · rw [if_neg hz]
        obtain ⟨p, n2, r', q1, q2, q3⟩ := ih (amI ns F e (T.mid a b) b ++ r) a (T.mid a b) hm.1 (by omega) (by have : T.mid a b = a + (b - a) / 2 := rfl; omega) h4 (.inr (by omega))
        refine ⟨p, n2 + n, r', by omega, q2, ?_⟩
        rw [q3]
        exact congrArg (fun z => (z, _)) (by omega)

theorem am_len (ns : List Int) (F : Int → List V.In) (e : V.In) (L : Int → Nat) (hF : ∀ z, (F z).length ≤ L z) (k : Nat) : ∀ a b, a < b → b ≤ ns.length → b - a ≤ k →
    2 ≤ (amI ns F e a b).length ∧ (amI ns F e a b).length + 2 ≤ (((ns.drop a).take (b - a)).map fun z => L z + 4).sum := by
  induction k with
  | zero => intro a b h1 _ h3; omega
  | succ k ih =>
    intro a b h1 h2 h3
    by_cases h6 : b - a < 2
    · have hb : b - a = 1 := by omega
      rw [am_one hb, hb]
      have hd : (ns.drop a).take 1 = [ns.getD a 0] := by
        rw [List.drop_eq_getElem_cons (by omega), List.take_succ_cons, List.take_zero]
        rw [List.getD_eq_getElem?_getD, List.getElem?_eq_getElem (by omega)]
        rfl
      rw [hd]
      have := hF (ns.getD a 0)
      simp only [List.length_append, List.length_cons, List.length_nil, List.map_cons, List.map_nil, List.sum_cons, List.sum_nil]
      omega
    · have hm := T.mid_lt (a := a) (b := b) (by omega)
      rw [am_two (by omega)]
      have i1 := ih a (T.mid a b) hm.1 (by omega) (by omega)
      have i2 := ih (T.mid a b) b hm.2 h2 (by omega)
      have hd : (ns.drop a).take (b - a) = (ns.drop a).take (T.mid a b - a) ++ (ns.drop (T.mid a b)).take (b - T.mid a b) := by
        rw [show b - a = (T.mid a b - a) + (b - T.mid a b) from by omega, List.take_add, List.drop_drop, show a + (T.mid a b - a) = T.mid a b from by omega]
      rw [hd, List.map_append, List.sum_append]
      unfold forkI
      rw [List.length_append, List.length_append]
      split
      · simp only [List.length_cons, List.length_nil]; omega
      · simp only [List.length_cons, List.length_nil]; omega

theorem am_gd (ns : List Int) (F : Int → List V.In) (e : V.In) (hn : ∀ z ∈ ns, V.U32 z) (he : ∀ b, Gd b [e]) (hF : ∀ z b, Gd b (F z)) (hF0 : ∀ z, 0 < (F z).length) (hbig : ∀ a b, a < b → b ≤ ns.length → (amI ns F e a b).length ≤ 4294967295) (k : Nat) (m : Nat) : ∀ a b, b ≤ ns.length → b - a ≤ k → Gd m (amI ns F e a b) := by
  induction k generalizing m with
  | zero => intro a b _ h; rw [am_none (by omega)]; exact he m
  | succ k ih =>
    intro a b h2 h3
    by_cases h0 : b - a = 0
    · rw [am_none h0]; exact he m
    · by_cases h6 : b - a < 2
      · rw [am_one (by omega)]
        have hu : V.U32 (ns.getD a 0) := by
          rw [List.getD_eq_getElem?_getD, List.getElem?_eq_getElem (by omega)]
          exact hn _ (List.getElem_mem _)
        refine Gd.app (a := [⟨21, 1, 0, ns.getD a 0⟩, e]) ?_ (hF _ _)
        have h1 := hF0 (ns.getD a 0)
        exact Gd.app (a := [⟨21, 1, 0, ns.getD a 0⟩]) (b := [e]) (jump_gd 21 _ 1 0 _ (.inl rfl) (by decide) (by decide) hu (by first | (simp only [List.length_nil]; omega) | (simp only [List.length_cons, List.length_nil]; omega) | (simp only [List.length_nil, List.length_append, List.length_cons]; omega) | (simp only [List.length_nil]; omega) | (simp only [List.length_nil, List.length_append]; omega)) (by first | (simp only [List.length_nil]; omega) | (simp only [List.length_cons, List.length_nil]; omega) | (simp only [List.length_nil, List.length_append, List.length_cons]; omega) | (simp only [List.length_nil]; omega) | (simp only [List.length_nil, List.length_append]; omega))) (he _)
      · have hm := T.mid_lt (a := a) (b := b) (by omega)
        rw [am_two (by omega)]
        have hu : V.U32 (ns.getD (T.mid a b) 0) := by
          rw [List.getD_eq_getElem?_getD, List.getElem?_eq_getElem (by omega)]
          exact hn _ (List.getElem_mem _)
        have i1 := ih ((amI ns F e (T.mid a b) b).length + m) a (T.mid a b) (by omega) (by omega)
        have i2 := ih m (T.mid a b) b h2 (by omega)
        have hb1 := hbig a (T.mid a b) hm.1 (by omega)
        have hl2 : 0 < (amI ns F e (T.mid a b) b).length := (am_len ns F e (fun z => (F z).length) (fun _ => Nat.le_refl _) _ (T.mid a b) b hm.2 h2 (Nat.le_refl _)).1 |> fun h => by omega
        unfold forkI
        refine Gd.app ?_ (Gd.app i1 i2)
        rw [List.length_append]
        generalize (amI ns F e a (T.mid a b)).length = x at *
        generalize (amI ns F e (T.mid a b) b).length = y at *
        split
        · exact jump_gd 53 _ x 0 _ (.inr (.inr rfl)) (by omega) (by omega) hu (by omega) (by omega)
        · refine Gd.app (a := [⟨53, 0, 1, ns.getD (T.mid a b) 0⟩]) (b := [⟨5, 0, 0, (x : Nat)⟩]) (jump_gd 53 _ 0 1 _ (.inr (.inr rfl)) (by decide) (by decide) hu (by first | (simp only [List.length_nil]; omega) | (simp only [List.length_cons, List.length_nil]; omega) | (simp only [List.length_nil, List.length_append, List.length_cons]; omega) | (simp only [List.length_nil]; omega) | (simp only [List.length_nil, List.length_append]; omega)) (by first | (simp only [List.length_nil]; omega) | (simp only [List.length_cons, List.length_nil]; omega) | (simp only [List.length_nil, List.length_append, List.length_cons]; omega) | (simp only [List.length_nil]; omega) | (simp only [List.length_nil, List.length_append]; omega))) ?_
          exact ⟨⟨u32_ok (c := 5) (k := (x : Int)) (t := 0) (f := 0) (by decide) (by decide) (by decide) ⟨by omega, by omega⟩, fault_ja x _ (by first | (simp only [List.length_nil]; omega) | (simp only [List.length_cons, List.length_nil]; omega) | (simp only [List.length_nil, List.length_append, List.length_cons]; omega) | (simp only [List.length_nil]; omega) | (simp only [List.length_nil, List.length_append]; omega))⟩, trivial⟩

/-- rising numbers, as the texts of the two packages say it. -/
theorem rises_of {ts : List Int} (h : M.Rise ts) : T.rises ts = true := by
  unfold T.rises
  rw [decide_eq_true_iff]
  intro i hi
  have := List.pairwise_iff_getElem.1 h i (i + 1) (by omega) (by omega) (by omega)
  rw [List.getD_eq_getElem?_getD, List.getD_eq_getElem?_getD, List.getElem?_eq_getElem (by omega), List.getElem?_eq_getElem (by omega)]
  exact this

/-- the program of rules whose numbers these are. -/
def bodI (ns : List Int) (k a : Int) (l : List M.Xl) : List V.In := amI ns (fun z => verI z k a l) (ansI k a) 0 ns.length
def progI (ns : List Int) (k a : Int) (l : List M.Xl) : List V.In := [⟨32, 0, 0, 4⟩, ⟨21, 1, 0, 3221225534⟩, ⟨6, 0, 0, 2147483648⟩, ⟨32, 0, 0, 0⟩] ++ bodI ns k a l

/-- the numbers of rules. -/
structure Nrs (ns : List Int) (l : List M.Xr) : Prop where
  rise : M.Rise ns
  mem : ∀ z, z ∈ ns ↔ z ∈ M.numsR l
theorem Nrs.tab {ns : List Int} {l : List M.Xr} (h : Nrs ns l) {z : Int} (hz : z ∈ ns) : z ∈ M.tabI := M.numsR_tab ((h.mem z).1 hz)
theorem Nrs.nodup {ns : List Int} {l : List M.Xr} (h : Nrs ns l) : ns.Nodup := List.Pairwise.imp (fun hab e => by omega) h.rise
theorem Nrs.len {ns : List Int} {l : List M.Xr} (h : Nrs ns l) : ns.length ≤ 30 := M.tabI_len ▸ M.nodup_le ns M.tabI h.nodup fun _ hz => h.tab hz
theorem tabI_u {z : Int} (h : z ∈ M.tabI) : V.U32 z ∧ M.isNr z = true := by
  have key : ∀ z ∈ M.tabI, (0 ≤ z ∧ z ≤ 4294967295) ∧ M.isNr z = true := by decide +kernel
  exact key z h

/-- a number that some rule names. -/
theorem nums_of_named {ns : List Int} {l : List M.Xr} (h : Nrs ns l) {z : Int} (hz : M.isNr z = true) {x : M.Xr} (hx : x ∈ l) (hn : M.namedB z x.r.names = true) : z ∈ ns := by
  rw [h.mem]
  unfold M.namedB at hn
  obtain ⟨s, hs, he⟩ := List.any_eq_true.1 hn
  have h2 := M.spk z s
  rw [hz, he] at h2
  have h3 : (M.knB s && (M.nrI s == z)) = true := h2.symm
  simp only [Bool.and_eq_true, beq_iff_eq] at h3
  refine List.mem_flatMap.2 ⟨x, hx, ?_⟩
  unfold M.nums
  exact List.mem_map.2 ⟨s, List.mem_filter.2 ⟨hs, h3.1⟩, h3.2⟩
theorem named_of_nums {ns : List Int} {l : List M.Xr} (h : Nrs ns l) {z : Int} (hz : z ∈ ns) : ∃ x ∈ l, M.namedB z x.r.names = true := by
  have hn := (tabI_u (h.tab hz)).2
  rw [h.mem] at hz
  obtain ⟨x, hx, h2⟩ := List.mem_flatMap.1 hz
  refine ⟨x, hx, ?_⟩
  unfold M.nums at h2
  obtain ⟨s, hs, e⟩ := List.mem_map.1 h2
  obtain ⟨hs1, hs2⟩ := List.mem_filter.1 hs
  unfold M.namedB
  refine List.any_eq_true.2 ⟨s, hs1, ?_⟩
  have h3 := M.spk z s
  rw [hn, hs2, Bool.true_and, e] at h3
  simpa using h3

/-- what no rule names is as the default says. -/
theorem verd_none (d : M.Da) (k a : Int) : ∀ (l : List M.Xl), (∀ x ∈ l, M.namedB d.n x.names = false) → M.verdF d k a l = (k, a)
  | [], _ => rfl
  | x :: l, h => by
    unfold M.verdF M.meetB
    rw [h x (List.mem_cons_self ..), Bool.false_and, if_neg (by decide)]
    exact verd_none d k a l fun y hy => h y (List.mem_cons_of_mem _ hy)

theorem ld_0 (d : V.Da) : V.ldv d 0 = d.n := rfl
theorem ld_4 (d : V.Da) : V.ldv d 4 = d.a := rfl

/-- the program's answer, and how far it goes. -/
theorem bod_run (d : M.Da) (hd : d.ok) (ns : List Int) (k a : Int) (l : List M.Xr) (h : Nrs ns l) (hl : ∀ x ∈ l, Xok x.r) (s : V.St) (hs : s.a = d.n) :
    ∃ n, n ≤ 13 + mostR d.n (l.map M.Xr.r) ∧ ex (toV d) (bodI ns k a (l.map M.Xr.r)) 0 s = (n, A.valZ (M.verdP d k a (l.map M.Xr.r)).1 (M.verdP d k a (l.map M.Xr.r)).2) := by
  have hlm : ∀ x ∈ l.map M.Xr.r, Xok x := fun x hx => by obtain ⟨y, hy, rfl⟩ := List.mem_map.1 hx; exact hl y hy
  have hno : d.n ∉ ns → M.verdP d k a (l.map M.Xr.r) = (k, a) := fun hn => by
    unfold M.verdP
    cases hz : M.isNr d.n with
    | false => rw [if_neg (by decide)]
    | true =>
      rw [if_pos rfl]
      refine verd_none d k a _ fun x hx => ?_
      obtain ⟨y, hy, rfl⟩ := List.mem_map.1 hx
      cases hq : M.namedB d.n y.r.names with
      | false => rfl
      | true => exact absurd (nums_of_named h hz hy hq) hn
  unfold bodI
  by_cases h0 : ns.length = 0
  · rw [am_none (by omega)]
    rw [hno (by intro hm; rw [List.eq_nil_of_length_eq_zero h0] at hm; cases hm)]
    exact ⟨1, by omega, ex_ret _ _ _ _⟩
  · obtain ⟨p, n, r', q1, q2, q3⟩ := am_run (toV d) ns (fun z => verI z k a (l.map M.Xr.r)) (ansI k a) s [] 5 0 ns.length (by omega) (Nat.le_refl _) (by have := h.len; omega) (.inl rfl) (.inl rfl)
    rw [List.append_nil] at q3
    rw [q3]
    have hj : ∀ b, ex (toV d) (⟨21, 1, 0, ns.getD p 0⟩ :: b) 0 s = _ := fun b => ex_jump (toV d) 21 (ns.getD p 0) 1 0 b s (.inl rfl)
    show ∃ n', _ ∧ ((ex (toV d) (⟨21, 1, 0, ns.getD p 0⟩ :: ansI k a :: (verI (ns.getD p 0) k a (l.map M.Xr.r) ++ r')) 0 s).1 + n, (ex (toV d) (⟨21, 1, 0, ns.getD p 0⟩ :: ansI k a :: (verI (ns.getD p 0) k a (l.map M.Xr.r) ++ r')) 0 s).2) = _
    rw [hj, holds21, hs]
    have hpm : ns.getD p 0 ∈ ns := by
      rw [List.getD_eq_getElem?_getD, List.getElem?_eq_getElem q2.1]
      exact List.getElem_mem _
    by_cases he : d.n = ns.getD p 0
    · rw [if_pos (by simpa using he), ex_succ, ← he]
      obtain ⟨n2, q4, q5⟩ := ver_run d hd k a (l.map M.Xr.r) hlm s
      rw [q5]
      refine ⟨n2 + 1 + n, by omega, ?_⟩
      unfold M.verdP
      rw [if_pos (tabI_u (h.tab (by rw [he]; exact hpm))).2]
    · rw [if_neg (by simpa using he)]
      have hnot : d.n ∉ ns := by
        intro hm
        obtain ⟨j, hj1, hj2⟩ := List.getElem_of_mem hm
        have hg : ns.getD j 0 = d.n := by rw [List.getD_eq_getElem?_getD, List.getElem?_eq_getElem hj1]; exact hj2
        have hr := rises_of h.rise
        obtain ⟨e1, e2, e3⟩ := q2
        rw [hs] at e2 e3
        rcases Nat.lt_trichotomy j p with hjp | hjp | hjp
        · have := T.rises_lt hr (p - j - 1) j (by omega)
          rw [show j + (p - j - 1) + 1 = p from by omega] at this
          rcases e2 with e2 | e2
          · omega
          · omega
        · rw [hjp] at hg; exact he hg.symm
        · rcases e3 with e3 | e3
          · omega
          · by_cases hq : j = p + 1
            · rw [hq] at hg; omega
            · have := T.rises_lt hr (j - (p + 1) - 1) (p + 1) (by omega)
              rw [show p + 1 + (j - (p + 1) - 1) + 1 = j from by omega] at this
              omega
      rw [hno hnot]
      have := ex_ret (toV d) (A.valZ k a) (verI (ns.getD p 0) k a (l.map M.Xr.r) ++ r') s
      unfold ansI
      rw [this]
      exact ⟨1 + 1 + n, by omega, rfl⟩

/-- what a program answers. -/
def meanZ (d : M.Da) (k a : Int) (l : List M.Xl) : Int := if d.a = 3221225534 then A.valZ (M.verdP d k a l).1 (M.verdP d k a l).2 else 2147483648
theorem prog_run (d : M.Da) (hd : d.ok) (ns : List Int) (k a : Int) (l : List M.Xr) (h : Nrs ns l) (hl : ∀ x ∈ l, Xok x.r) :
    ∃ n, n ≤ 16 + mostR d.n (l.map M.Xr.r) ∧ ex (toV d) (progI ns k a (l.map M.Xr.r)) 0 V.St.zero = (n, meanZ d k a (l.map M.Xr.r)) := by
  unfold progI meanZ
  show ∃ n, _ ∧ ex (toV d) (⟨32, 0, 0, 4⟩ :: ⟨21, 1, 0, 3221225534⟩ :: ⟨6, 0, 0, 2147483648⟩ :: ⟨32, 0, 0, 0⟩ :: bodI ns k a (l.map M.Xr.r)) 0 V.St.zero = _
  have hld : ∀ (z : Int) (b : List V.In) (s : V.St), ∃ t : V.St, t.a = V.ldv (toV d) z ∧ ex (toV d) (⟨32, 0, 0, z⟩ :: b) 0 s = ((ex (toV d) b 0 t).1 + 1, (ex (toV d) b 0 t).2) := fun z b s => ⟨{ s with a := V.ldv (toV d) z }, rfl, ex_ld (toV d) z b s⟩
  have hj : ∀ b s, ex (toV d) (⟨21, 1, 0, 3221225534⟩ :: b) 0 s = _ := fun b s => ex_jump (toV d) 21 3221225534 1 0 b s (.inl rfl)
  obtain ⟨t, ht, e1⟩ := hld 4 (⟨21, 1, 0, 3221225534⟩ :: ⟨6, 0, 0, 2147483648⟩ :: ⟨32, 0, 0, 0⟩ :: bodI ns k a (l.map M.Xr.r)) V.St.zero
  have hta : t.a = d.a := ht
  rw [e1, hj, holds21, hta]
  by_cases he : d.a = 3221225534
  · rw [if_pos he, if_pos (show (d.a == 3221225534) = true by simpa using he), ex_succ]
    obtain ⟨t2, ht2, e2⟩ := hld 0 (bodI ns k a (l.map M.Xr.r)) t
    obtain ⟨n, q1, q2⟩ := bod_run d hd ns k a l h hl t2 ht2
    rw [e2, q2]
    exact ⟨n + 1 + 1 + 1, by omega, rfl⟩
  · rw [if_neg he, if_neg (show ¬ (d.a == 3221225534) = true by simpa using he), ex_ret]
    exact ⟨1 + 1 + 1, by omega, rfl⟩

theorem bod_len (ns : List Int) (k a : Int) (l : List M.Xl) : 1 ≤ (bodI ns k a l).length ∧ (bodI ns k a l).length ≤ (ns.map fun z => lenR z l + 5).sum + 1 := by
  unfold bodI
  by_cases h0 : ns.length = 0
  · rw [am_none (by omega)]
    simp
  · have := am_len ns (fun z => verI z k a l) (ansI k a) (fun z => lenR z l + 1) (fun z => ver_len z k a l) ns.length 0 ns.length (by omega) (Nat.le_refl _) (by omega)
    rw [List.drop_zero, Nat.sub_zero, List.take_length] at this
    have e : (fun z => lenR z l + 1 + 4) = fun z => lenR z l + 5 := by funext z; omega
    rw [e] at this
    omega

/-- no more numbers than names. -/
theorem count_le (ns : List Int) (hn : ns.Nodup) (hz : ∀ z ∈ ns, M.isNr z = true) (names : List ByteArray) : (ns.filter fun z => M.namedB z names).length ≤ names.length := by
  have h1 : (ns.filter fun z => M.namedB z names).length ≤ ((names.map M.nrI) : List Int).length := by
    refine M.nodup_le _ _ (hn.sublist List.filter_sublist) fun z hm => ?_
    obtain ⟨h2, h3⟩ := List.mem_filter.1 hm
    unfold M.namedB at h3
    obtain ⟨s, hs, he⟩ := List.any_eq_true.1 h3
    have h4 := M.spk z s
    rw [hz z h2, he] at h4
    have h5 : (M.knB s && (M.nrI s == z)) = true := h4.symm
    simp only [Bool.and_eq_true, beq_iff_eq] at h5
    exact List.mem_map.2 ⟨s, hs, h5.2⟩
  rw [List.length_map] at h1
  exact h1
theorem sum_if (ns : List Int) (p : Int → Bool) (c : Nat) : (ns.map fun z => if p z = true then c else 0).sum = (ns.filter p).length * c := by
  induction ns with
  | nil => simp
  | cons z r ih =>
    rw [List.map_cons, List.sum_cons, ih, List.filter_cons]
    split
    · rw [List.length_cons, Nat.add_mul]; omega
    · omega
theorem sum_swap (ns : List Int) : ∀ l : List M.Xl, (ns.map fun z => (l.map fun x => if M.namedB z x.names = true then 7 * x.conds.length + 6 else 0).sum).sum = (l.map fun x => (ns.filter fun z => M.namedB z x.names).length * (7 * x.conds.length + 6)).sum
  | [] => by
    show (ns.map fun _ => 0).sum = 0
    induction ns with
    | nil => rfl
    | cons z r ih => rw [List.map_cons, List.sum_cons, ih, Nat.add_zero]
  | x :: l => by
    rw [List.map_cons, List.sum_cons, ← sum_swap ns l, ← sum_if ns (fun z => M.namedB z x.names) (7 * x.conds.length + 6)]
    induction ns with
    | nil => rfl
    | cons z r ih =>
      simp only [List.map_cons, List.sum_cons] at ih ⊢
      omega
theorem lenR_six (z : Int) (l : List M.Xl) (h : ∃ x ∈ l, M.namedB z x.names = true) : lenR z l + 5 ≤ (l.map fun x => if M.namedB z x.names = true then 7 * x.conds.length + 6 else 0).sum := by
  have hge : ∀ l : List M.Xl, lenR z l ≤ (l.map fun x => if M.namedB z x.names = true then 7 * x.conds.length + 6 else 0).sum := by
    intro l
    induction l with
    | nil => exact Nat.le_refl _
    | cons x r ih =>
      rw [lenR_cons, List.map_cons, List.sum_cons]
      split <;> omega
  induction l with
  | nil => obtain ⟨x, hx, _⟩ := h; cases hx
  | cons y r ih =>
    rw [lenR_cons, List.map_cons, List.sum_cons]
    cases hy : M.namedB z y.names with
    | true =>
      have := hge r
      rw [if_pos rfl, if_pos rfl]
      omega
    | false =>
      rw [if_neg (by decide), if_neg (by decide)]
      obtain ⟨x, hx, hn⟩ := h
      have := ih (by
        rcases List.mem_cons.1 hx with rfl | hx
        · rw [hy] at hn; cases hn
        · exact ⟨x, hx, hn⟩)
      omega
/-- the rules for all numbers are no longer than rules weigh. -/
theorem sum_wg (ns : List Int) (l : List M.Xr) (h : Nrs ns l) : (ns.map fun z => lenR z (l.map M.Xr.r) + 5).sum ≤ (l.map fun x => M.wg1 x.r).sum := by
  have h1 : (ns.map fun z => lenR z (l.map M.Xr.r) + 5).sum ≤ (ns.map fun z => ((l.map M.Xr.r).map fun x => if M.namedB z x.names = true then 7 * x.conds.length + 6 else 0).sum).sum := by
    have : ∀ ms : List Int, (∀ z ∈ ms, z ∈ ns) → (ms.map fun z => lenR z (l.map M.Xr.r) + 5).sum ≤ (ms.map fun z => ((l.map M.Xr.r).map fun x => if M.namedB z x.names = true then 7 * x.conds.length + 6 else 0).sum).sum := by
      intro ms
      induction ms with
      | nil => intro _; exact Nat.le_refl _
      | cons z r ih =>
        intro hm
        simp only [List.map_cons, List.sum_cons]
        have h2 := ih fun y hy => hm y (List.mem_cons_of_mem _ hy)
        obtain ⟨x, hx, hn⟩ := named_of_nums h (hm z (List.mem_cons_self ..))
        have h3 := lenR_six z (l.map M.Xr.r) ⟨x.r, List.mem_map.2 ⟨x, hx, rfl⟩, hn⟩
        omega
    exact this ns fun _ hz => hz
  rw [sum_swap] at h1
  have h2 : ((l.map M.Xr.r).map fun x => (ns.filter fun z => M.namedB z x.names).length * (7 * x.conds.length + 6)).sum ≤ (l.map fun x => M.wg1 x.r).sum := by
    have hc := count_le ns h.nodup fun z hz => (tabI_u (h.tab hz)).2
    clear h1 h
    induction l with
    | nil => exact Nat.le_refl _
    | cons x r ih =>
      simp only [List.map_cons, List.sum_cons]
      have h3 : (ns.filter fun z => M.namedB z x.r.names).length * (7 * x.r.conds.length + 6) ≤ M.wg1 x.r := by
        unfold M.wg1
        exact Nat.mul_le_mul (hc x.r.names) (by omega)
      simp only [List.map_map] at ih ⊢
      omega
  exact Nat.le_trans h1 h2
/-- a program is no longer than rules weigh. -/
theorem prog_len (ns : List Int) (k a : Int) (l : List M.Xr) (h : Nrs ns l) : 5 ≤ (progI ns k a (l.map M.Xr.r)).length ∧ (progI ns k a (l.map M.Xr.r)).length ≤ M.wgt l := by
  have hb := bod_len ns k a (l.map M.Xr.r)
  have h2 := sum_wg ns l h
  have h3 : M.wgt l = 8 + (l.map fun x => M.wg1 x.r).sum := rfl
  unfold progI
  rw [List.length_append]
  simp only [List.length_cons, List.length_nil]
  omega
/-- nothing is wrong with it. -/
theorem prog_gd (ns : List Int) (k a : Int) (l : List M.Xr) (h : Nrs ns l) (hl : ∀ x ∈ l, Xok x.r) (hw : M.wgt l ≤ 100000000) : Gd 0 (progI ns k a (l.map M.Xr.r)) := by
  have hlm : ∀ x ∈ l.map M.Xr.r, Xok x := fun x hx => by obtain ⟨y, hy, rfl⟩ := List.mem_map.1 hx; exact hl y hy
  have hu : ∀ z ∈ ns, V.U32 z := fun z hz => (tabI_u (h.tab hz)).1
  have hlen := prog_len ns k a l h
  have hbl := bod_len ns k a (l.map M.Xr.r)
  have hsub : ∀ i j, i < j → j ≤ ns.length → (amI ns (fun z => verI z k a (l.map M.Xr.r)) (ansI k a) i j).length ≤ 4294967295 := by
    have hall : ∀ z ∈ ns, lenR z (l.map M.Xr.r) + 5 ≤ 100000000 := fun z hz => by
      have h1 := lenR_six z (l.map M.Xr.r) (by obtain ⟨x, hx, hn⟩ := named_of_nums h hz; exact ⟨x.r, List.mem_map.2 ⟨x, hx, rfl⟩, hn⟩)
      have h2 : ((l.map M.Xr.r).map fun x => if M.namedB z x.names = true then 7 * x.conds.length + 6 else 0).sum ≤ (l.map fun x => M.wg1 x.r).sum := by
        clear h1 hlen hbl hlm hl hw h
        induction l with
        | nil => exact Nat.le_refl _
        | cons x r ih =>
          simp only [List.map_cons, List.sum_cons]
          have h3 : (if M.namedB z x.r.names = true then 7 * x.r.conds.length + 6 else 0) ≤ M.wg1 x.r := by
            split
            · rename_i hn
              have : 0 < x.r.names.length := by
                unfold M.namedB at hn
                obtain ⟨s, hs, _⟩ := List.any_eq_true.1 hn
                exact List.length_pos_of_mem hs
              unfold M.wg1
              have := Nat.mul_le_mul this (show 7 * x.r.conds.length + 6 ≤ 8 * x.r.conds.length + 8 by omega)
              omega
            · exact Nat.zero_le _
          simp only [List.map_map] at ih ⊢
          omega
      have h3 : M.wgt l = 8 + (l.map fun x => M.wg1 x.r).sum := rfl
      omega
    intro i j h1 h2
    have := (am_len ns (fun z => verI z k a (l.map M.Xr.r)) (ansI k a) (fun z => lenR z (l.map M.Xr.r) + 1) (fun z => ver_len z k a _) (j - i) i j h1 h2 (Nat.le_refl _)).2
    have hs : ∀ ms : List Int, (∀ z ∈ ms, z ∈ ns) → (ms.map fun z => lenR z (l.map M.Xr.r) + 1 + 4).sum ≤ ms.length * 100000000 := by
      intro ms
      induction ms with
      | nil => intro _; exact Nat.zero_le _
      | cons z r ih =>
        intro hm
        have h5 := ih fun y hy => hm y (List.mem_cons_of_mem _ hy)
        have h6 := hall z (hm z (List.mem_cons_self ..))
        simp only [List.map_cons, List.sum_cons, List.length_cons]
        omega
    have h7 := hs ((ns.drop i).take (j - i)) fun z hz => List.mem_of_mem_drop (List.mem_of_mem_take hz)
    have h8 : ((ns.drop i).take (j - i)).length ≤ 30 := by
      have := h.len
      rw [List.length_take, List.length_drop]
      omega
    omega
  have hb : Gd 0 (bodI ns k a (l.map M.Xr.r)) := by
    unfold bodI
    exact am_gd ns _ _ hu (ans_gd k a) (fun z b => ver_gd z k a b _ hlm) (fun z => ver_pos z k a _) hsub ns.length 0 0 ns.length (Nat.le_refl _) (by omega)
  unfold progI
  refine Gd.app ?_ hb
  refine ⟨⟨by unfold V.In.ok; decide, fault_ld 4 _ (by decide) (by decide) (by first | (simp only [List.length_nil]; omega) | (simp only [List.length_cons, List.length_nil]; omega) | (simp only [List.length_nil]; omega))⟩, ⟨by unfold V.In.ok; decide, fault_jump 21 _ 1 0 _ (.inl rfl) (by first | (simp only [List.length_nil]; omega) | (simp only [List.length_cons, List.length_nil]; omega) | (simp only [List.length_nil, List.length_append, List.length_cons]; omega) | (simp only [List.length_nil]; omega) | (simp only [List.length_nil, List.length_append]; omega)) (by first | (simp only [List.length_nil]; omega) | (simp only [List.length_cons, List.length_nil]; omega) | (simp only [List.length_nil]; omega))⟩, ⟨by unfold V.In.ok; decide, fault_ret _ _⟩, ⟨by unfold V.In.ok; decide, fault_ld 0 _ (by decide) (by decide) (by first | (simp only [List.length_nil]; omega) | (simp only [List.length_cons, List.length_nil]; omega) | (simp only [List.length_nil, List.length_append, List.length_cons]; omega) | (simp only [List.length_nil]; omega) | (simp only [List.length_nil, List.length_append]; omega))⟩, trivial⟩

/-- what the machine makes of it. -/
theorem prog_chk (ns : List Int) (k a : Int) (l : List M.Xr) (h : Nrs ns l) (hl : ∀ x ∈ l, Xok x.r) (hw : M.wgt l ≤ 100000000) (h4 : (progI ns k a (l.map M.Xr.r)).length ≤ 4096) : V.chk (progI ns k a (l.map M.Xr.r)) = (0, -1) := by
  have hp := (prog_len ns k a l h).1
  unfold V.chk
  rw [if_neg (by omega), if_neg (by omega)]
  exact (prog_gd ns k a l h hl hw).ff 0
theorem prog_ans (d : M.Da) (hd : d.ok) (ns : List Int) (k a : Int) (l : List M.Xr) (h : Nrs ns l) (hl : ∀ x ∈ l, Xok x.r) (hw : M.wgt l ≤ 100000000) (h4 : (progI ns k a (l.map M.Xr.r)).length ≤ 4096) :
    V.errV (progI ns k a (l.map M.Xr.r)) = 0 ∧ V.ansV (progI ns k a (l.map M.Xr.r)) (toV d) = meanZ d k a (l.map M.Xr.r) ∧ (V.plV (progI ns k a (l.map M.Xr.r)) (toV d)).length ≤ 16 + mostR d.n (l.map M.Xr.r) := by
  have he : V.errV (progI ns k a (l.map M.Xr.r)) = 0 := by unfold V.errV; rw [prog_chk ns k a l h hl hw h4]
  have hg := prog_gd ns k a l h hl hw
  obtain ⟨n, hn, hx⟩ := prog_run d hd ns k a l h hl
  have hr := run_ex (progI ns k a (l.map M.Xr.r)) (toV d) hg.ok _ 0 V.St.zero (Nat.le_refl _)
  rw [List.drop_zero, hx, Nat.sub_zero] at hr
  refine ⟨he, ?_, ?_⟩
  · unfold V.ansV V.allV
    rw [if_pos he]
    exact congrArg (·.2) hr
  · unfold V.plV V.allV
    rw [if_pos he, List.length_map]
    have := congrArg (·.1) hr
    dsimp only at this
    omega

end Go.Proofs.YtpojlfenmanehaaGreat

namespace Go.Proofs.YtpojlfenmanehaaGreat
open Go.RowKit

/-- what a function tells that makes a program. -/
def Tld (w : World) (l : List V.In) (e : Ending) (w' : World) : Prop := ∃ v, e = .returned v ∧ w'.ownsRow w.heap.size 78 4 v l.length (V.cellsI l) ∧ Below w.heap.size w w'

theorem own_fresh (w : World) (base : Nat) (hb : base ≤ w.heap.size) (l : List V.In) (n : Nat) (hn : l.length = n) (hl : l.length ≤ 1000) (cs : Array Value) (hc : cs.toList = V.cellsI l) : (w.alloc (Obj.cells cs 78)).ownsRow base 78 4 (.slice (some ⟨w.heap.size, 0, none⟩) n n) n (V.cellsI l) := by
  subst hn
  have h4 := V.cellsI_length l
  have hs : cs.size = l.length * 4 := by rw [← Array.length_toList, hc, h4]
  refine ⟨h4, .inr ⟨w.heap.size, l.length, cs, rfl, hb, heap_alloc_new _ _, Nat.le_refl _, by unfold maxLen; omega, hs, ?_⟩⟩
  rw [hc, List.take_of_length_le (by omega)]

theorem own_in (w : World) (base : Nat) (hb : base ≤ w.heap.size) (c t f k : Int) (g : Nat) (hg : g = w.heap.size) : (w.alloc (Obj.cells #[.int .u16 c, .int .u8 t, .int .u8 f, .int .u32 k] 78)).ownsRow base 78 4 (.slice (some ⟨g, 0, none⟩) 1 1) 1 (V.cellsI [⟨c, t, f, k⟩]) := by
  subst hg
  exact own_fresh w base hb [⟨c, t, f, k⟩] 1 rfl (by simp) _ rfl
theorem own_in2 (w : World) (base : Nat) (hb : base ≤ w.heap.size) (c t f k c' t' f' k' : Int) (g : Nat) (hg : g = w.heap.size) : (w.alloc (Obj.cells #[.int .u16 c, .int .u8 t, .int .u8 f, .int .u32 k, .int .u16 c', .int .u8 t', .int .u8 f', .int .u32 k'] 78)).ownsRow base 78 4 (.slice (some ⟨g, 0, none⟩) 2 2) 2 (V.cellsI [⟨c, t, f, k⟩, ⟨c', t', f', k'⟩]) := by
  subst hg
  exact own_fresh w base hb [⟨c, t, f, k⟩, ⟨c', t', f', k'⟩] 2 rfl (by simp) _ rfl
theorem own_slice {w : World} {base sz : Nat} {t : TypeId} {v : Value} {n : Nat} {xs : List Value} (h : w.ownsRow base t sz v n xs) : ∃ a cap, v = .slice a n cap := by
  rcases h.2 with ⟨rfl, rfl⟩ | ⟨g, cap, cur, rfl, _⟩
  · exact ⟨none, 0, rfl⟩
  · exact ⟨_, cap, rfl⟩
theorem own_nil (w : World) (base : Nat) : w.ownsRow base 78 4 (.slice none 0 0) 0 (V.cellsI []) := ⟨by simp [V.cellsI], .inl ⟨rfl, rfl⟩⟩

/-- two rows that do not share a block. -/
def Apart (v u : Value) : Prop := ∀ j, v.ownBlock = some j → u.ownBlock ≠ some j

/-- what an append to a row leaves. -/
structure Grw (X Y : World) (base : Nat) (v v' : Value) (n : Nat) (l : List V.In) : Prop where
  own : Y.ownsRow base 78 4 v' n (V.cellsI l)
  grown : X.grownBy Y v.ownBlock
  blk : v'.ownBlock = v.ownBlock ∨ v'.ownBlock = some X.heap.size

/-- a row appended to a row of the call's own. -/
theorem run_app {w : World} (ty : TypeId) (base : Nat) (v : Value) (n : Nat) (l : List V.In) (hown : w.ownsRow base 78 4 v n (V.cellsI l))
    (base2 : Nat) (v2 : Value) (m : Nat) (k : List V.In) (hown2 : w.ownsRow base2 78 4 v2 m (V.cellsI k)) (hn : n + m ≤ 100000) (hbase : base ≤ w.heap.size) :
    ∃ v' w', (Builtin.append_ #[29, 29] ty #[v, v2]).run Tryz.prog w = .ok v' w' ∧ Grw w w' base v v' (n + m) (l ++ k) := by
  obtain ⟨i0, hi, hz0, hz1, hz2⟩ := info_parts V.Tryz.info78
  rcases hown2.2 with ⟨rfl, rfl⟩ | ⟨g, cap, cur, rfl, _⟩
  · have hk : k = [] := by
      have := hown2.1
      rw [V.cellsI_length] at this
      exact List.eq_nil_of_length_eq_zero (by omega)
    subst hk
    refine ⟨v, w, ?_, ⟨by simpa using hown, V.grow_refl _ _, .inl rfl⟩⟩
    exact run_append_owned_none w base 29 ty 78 i0 4 Tryz.underlying29 hi v n (V.cellsI l) hown
  · obtain ⟨v', w', h0, h1, h2, _, h4⟩ := run_append_own_at (P := Tryz.prog) w base 29 ty 78 i0 _ 4 8 Tryz.underlying29 hi hz0 hz1 hz2 rfl (by decide) v n (V.cellsI l) hown ⟨g, 0, none⟩ m cap (V.cellsI k) hown2.1 (hown2.cells (g := g) rfl) (V.cellsI_kind k) (by unfold maxLen; omega) (by omega) hbase
    exact ⟨v', w', h0, ⟨by rw [V.cellsI_app]; exact h1, h2, h4⟩⟩
theorem app_rows {w : World} {ops : Array Oper} {rest : List Oper} {o : Oper} {a : Act} {Q : Exit → Act → World → Prop} (hgd : o.guard = none) (s x : Operand)
    (ho : o.op = .call { callee := .builtin .append, args := #[s, x], argTypes := #[29, 29] })
    (base : Nat) (v : Value) (n : Nat) (l : List V.In) (hs : a.eval s = v) (hown : w.ownsRow base 78 4 v n (V.cellsI l))
    (base2 : Nat) (v2 : Value) (m : Nat) (k : List V.In) (hx : a.eval x = v2) (hown2 : w.ownsRow base2 78 4 v2 m (V.cellsI k))
    (hn : n + m ≤ 100000) (hbase : base ≤ w.heap.size)
    (h : ∀ v' w', Grw w w' base v v' (n + m) (l ++ k) → wpList Tryz.prog ops Q rest (a.put o.dst v') w') : wpList Tryz.prog ops Q (o :: rest) a w := by
  obtain ⟨v', w', hrun, hG⟩ := run_app o.type base v n l hown base2 v2 m k hown2 hn hbase
  refine wpList_plain hgd fun K hK => ?_
  unfold Oper.wp execOp
  simp only [ho, resolve, invoke, builtin, Sem.run_bind, Sem.run_pure, Result.andThen_ok, List.map_toArray, List.map_cons, List.map_nil, hs, hx, hrun]
  exact hK _ _ (h v' w' hG)
theorem step_rows {w : World} {ops : Array Oper} {o : Oper} {a : Act} {K : Act → World → Prop} {Q : Exit → Act → World → Prop} {E : Prop} (hgd : o.guard = none) (s x : Operand)
    (ho : o.op = .call { callee := .builtin .append, args := #[s, x], argTypes := #[29, 29] })
    (base : Nat) (v : Value) (n : Nat) (l : List V.In) (hs : a.eval s = v) (hown : w.ownsRow base 78 4 v n (V.cellsI l))
    (base2 : Nat) (v2 : Value) (m : Nat) (k : List V.In) (hx : a.eval x = v2) (hown2 : w.ownsRow base2 78 4 v2 m (V.cellsI k))
    (hn : n + m ≤ 100000) (hbase : base ≤ w.heap.size)
    (h : ∀ v' w', Grw w w' base v v' (n + m) (l ++ k) → K (a.put o.dst v') w') :
    if Region.wanted o (yielded ops a.tmps) = true then Oper.wp Tryz.prog o a w K Q else E := by
  rw [if_pos (by simp [Region.wanted, hgd])]
  obtain ⟨v', w', hrun, hG⟩ := run_app o.type base v n l hown base2 v2 m k hown2 hn hbase
  unfold Oper.wp execOp
  simp only [ho, resolve, invoke, builtin, Sem.run_bind, Sem.run_pure, Result.andThen_ok, List.map_toArray, List.map_cons, List.map_nil, hs, hx, hrun]
  exact h _ _ hG
theorem Grw.below {X Y : World} {base : Nat} {v v' : Value} {n : Nat} {l : List V.In} (h : Grw X Y base v v' n l) {w : World} {n0 : Nat} {l0 : List V.In} (hown : X.ownsRow base 78 4 v n0 (V.cellsI l0)) (hb : Below base w X) (hB : base ≤ X.heap.size) : Below base w Y :=
  hb.grown h.grown hB (V.owns_block hown)
/-- another row stays. -/
theorem Grw.kept {X Y : World} {base b2 : Nat} {v v' u : Value} {n m : Nat} {l : List V.In} {xs : List Value} (h : Grw X Y base v v' n l) (hu : X.ownsRow b2 78 4 u m xs) (ha : Apart v u) : Y.ownsRow b2 78 4 u m xs ∧ Apart v' u := by
  refine ⟨hu.kept h.grown ?_, fun j hj e => ?_⟩
  · cases hq : u.ownBlock with
    | none => exact .inl rfl
    | some j => exact .inr fun e => ha j e.symm hq
  · rcases h.blk with hb | hb
    · exact ha j (hb ▸ hj) e
    · rw [hb] at hj
      cases hj
      have := V.own_lt hu _ e
      omega

/-- an instruction as it lies in a cell that is handed back. -/
def cI (x : V.In) : Array Value := #[.int .u16 x.c, .int .u8 x.t, .int .u8 x.f, .int .u32 x.k]
theorem cellsI_one (x : V.In) : V.cellsI [x] = (cI x).toList := rfl

theorem at_op {P : Program} {ops : Array Oper} {Q : Exit → Act → World → Prop} {rest : List Oper} {o : Oper} {a : Act} {w : World} (op : Op) (_ho : o.op = op) (h : wpList P ops Q (o :: rest) a w) : wpList P ops Q (o :: rest) a w := h
theorem below_setRow {B : Nat} {a w : World} (h : Below B a w) {g : Nat} (hg : B ≤ g) (cs : Array Value) : Below B a (w.setRow g cs) := M.below_setRow h hg cs
theorem below_new (w : World) (o : Obj) : Below w.heap.size w (w.alloc o) := (Below.refl _ _).alloc (Nat.le_refl _) _
theorem below_two (w : World) (o p : Obj) : Below w.heap.size w ((w.alloc o).alloc p) := (below_new w o).alloc (below_new w o).size _
theorem size78 (x : V.In) : (Tryz.prog.info? 78).map (·.size) = some (cI x).size := by show (Tryz.prog.info? 78).map (·.size) = some 4; kernel_rfl
theorem cI_one (x : V.In) : (cI x).all (·.oneCell') = true := by simp [cI, Value.oneCell']

end Go.Proofs.YtpojlfenmanehaaGreat

namespace Go.Proofs.YtpojlfenmanehaaGreat
open Go.RowKit

set_option maxHeartbeats 1000000 in
theorem answer_any (k a : Int) (w : World) : Calls Tryz.prog 35 #[.agg #[.int .i64 k, .int .i64 a]] w fun e w' => e = .returned (.agg (cI (ansI k a))) ∧ Below w.heap.size w w' := by
  have HV : Hid (∀ W, Calls Tryz.prog 64 #[.agg #[.int .i64 k, .int .i64 a]] W fun e w' => e = .returned (.tuple #[.int .u32 (A.valZ k a), .int .i64 (A.errZ k a)]) ∧ Below W.heap.size W w') := fun W => A.value_any k a W
  have HB : Hid (V.Blk ((w.alloc (Obj.cells #[.int .i64 k, .int .i64 a] 23)).alloc (Obj.cells #[.int .u16 0, .int .u8 0, .int .u8 0, .int .u32 0] 78)) (w.heap.size + 1) 78 [.int .u16 0, .int .u8 0, .int .u8 0, .int .u32 0]) := V.blk_new' w _ _ 78
  have HW : Hid (Below w.heap.size w ((w.alloc (Obj.cells #[.int .i64 k, .int .i64 a] 23)).alloc (Obj.cells #[.int .u16 0, .int .u8 0, .int .u8 0, .int .u32 0] 78))) := below_two w _ _
  have HS : Hid ((Tryz.prog.info? 78).map (·.size) = some (cI (ansI k a)).size) := size78 _
  have H1 : Hid ((cI (ansI k a)).all (·.oneCell') = true) := cI_one _
  unfold ansI cI at *
  dsimp only at *
  generalize A.valZ k a = v at *
  generalize A.errZ k a = er at *
  go_enter Tryz.func35, Tryz.ntmps35
  go_wp2_with (first | (go_at_call 64; refine (HV.out _).mono ?_; rintro e w1 ⟨rfl, b1⟩; have HB1 := HB.out.over b1; have HW1 : Hid (Below w.heap.size w w1) := HW.out.trans (b1.mono HW.out.size); clear b1) | (refine at_op (.store 78 (.tmp 2) (.tmp 11)) rfl ?_; refine wpList_store_row rfl 78 (.tmp 2) (.tmp 11) rfl (w.heap.size + 1) #[.int .u16 6, .int .u8 0, .int .u8 0, .int .u32 v] rfl rfl 78 _ HB1 HS.out rfl H1.out ?_))
  refine bodyPost_ret (v := .agg #[.int .u16 6, .int .u8 0, .int .u8 0, .int .u32 v]) ?_ rfl ⟨rfl, ?_⟩
  · exact results_cell_row Tryz.results35 _ _ (w.heap.size + 1) 78 #[.int .u16 6, .int .u8 0, .int .u8 0, .int .u32 v] (0, 0) _ rfl (V.Blk.row HB1 _) Tryz.underlying78 rfl HS.out
  · exact below_setRow HW1.out (Nat.le_succ _) _

set_option maxHeartbeats 1000000 in
theorem jump_any (c k t f : Int) (w : World) (ht : 0 ≤ t ∧ t ≤ 255) (hf : 0 ≤ f ∧ f ≤ 255) : Calls Tryz.prog 140 #[.int .u16 c, .int .u32 k, .int .i64 t, .int .i64 f] w fun e w' => e = .returned (.agg (cI ⟨c, t, f, k⟩)) ∧ Below w.heap.size w w' := by
  have HB : Hid (V.Blk (w.alloc (Obj.cells #[.int .u16 0, .int .u8 0, .int .u8 0, .int .u32 0] 78)) w.heap.size 78 [.int .u16 0, .int .u8 0, .int .u8 0, .int .u32 0]) := V.blk_new w _ 78
  have HW : Hid (Below w.heap.size w (w.alloc (Obj.cells #[.int .u16 0, .int .u8 0, .int .u8 0, .int .u32 0] 78))) := below_new w _
  have HS : Hid ((Tryz.prog.info? 78).map (·.size) = some (cI ⟨c, t, f, k⟩).size) := size78 _
  have H1 : Hid ((cI ⟨c, t, f, k⟩).all (·.oneCell') = true) := cI_one _
  have e1 : IntKind.u8.wrap t = t := by rw [IntKind.wrap_u8]; omega
  have e2 : IntKind.u8.wrap f = f := by rw [IntKind.wrap_u8]; omega
  unfold cI at *
  dsimp only at *
  go_enter Tryz.func140, Tryz.ntmps140
  go_wp2_with (first | (refine at_op (.store 78 (.tmp 8) (.tmp 15)) rfl ?_; refine wpList_store_row rfl 78 (.tmp 8) (.tmp 15) rfl w.heap.size #[.int .u16 c, .int .u8 t, .int .u8 f, .int .u32 k] rfl rfl 78 _ HB.out HS.out rfl H1.out ?_))
  refine bodyPost_ret (v := .agg #[.int .u16 c, .int .u8 t, .int .u8 f, .int .u32 k]) ?_ rfl ⟨rfl, ?_⟩
  · exact results_cell_row Tryz.results140 _ _ w.heap.size 78 #[.int .u16 c, .int .u8 t, .int .u8 f, .int .u32 k] (0, 0) _ rfl (V.Blk.row HB.out _) Tryz.underlying78 rfl HS.out
  · exact below_setRow HW.out (Nat.le_refl _) _

theorem code_any (o : Int) (w : World) : Calls Tryz.prog 173 #[.int .i64 o] w fun e w' => e = .returned (.int .u16 (codeI o)) ∧ w' = w := by
  by_cases h5 : o = 5
  · subst h5
    go_enter Tryz.func173, Tryz.ntmps173
    go_wp2
    go_ret
    exact ⟨rfl, rfl⟩
  · by_cases h6 : o = 6
    · subst h6
      go_enter Tryz.func173, Tryz.ntmps173
      go_wp2
      go_ret
      exact ⟨rfl, rfl⟩
    · have HC : Hid (codeI o = 21) := by unfold Hid codeI; rw [if_neg h5, if_neg h6]
      have e5 : (o == 5) = false := by simpa using h5
      have e6 : (o == 6) = false := by simpa using h6
      go_enter Tryz.func173, Tryz.ntmps173
      go_wp2
      go_ret
      exact ⟨by rw [HC.out]; rfl, rfl⟩

theorem hicode_any (o v : Int) (w : World) : Calls Tryz.prog 172 #[.int .i64 o, .int .u32 v] w fun e w' => e = .returned (.int .u16 (hiI o v)) ∧ w' = w := by
  have HC : Hid (∀ W, Calls Tryz.prog 173 #[.int .i64 o] W fun e w' => e = .returned (.int .u16 (codeI o)) ∧ w' = W) := code_any o
  by_cases h6 : o = 6
  · subst h6
    by_cases hv : 0 < v
    · have HH : Hid (hiI 6 v = 37) := by unfold Hid hiI; rw [if_pos ⟨rfl, hv⟩]
      go_enter Tryz.func172, Tryz.ntmps172
      go_wp2_with (first | (go_at_call 173; refine (HC.out _).mono ?_; rintro e w1 ⟨rfl, hw1⟩; subst w1))
      go_ret
      exact ⟨by rw [HH.out]; rfl, rfl⟩
    · have HH : Hid (hiI 6 v = codeI 6) := by unfold Hid hiI; rw [if_neg (fun h => hv h.2)]
      generalize codeI 6 = cc at *
      go_enter Tryz.func172, Tryz.ntmps172
      go_wp2_with (first | (go_at_call 173; refine (HC.out _).mono ?_; rintro e w1 ⟨rfl, hw1⟩; subst w1))
      go_ret
      exact ⟨by rw [HH.out]; rfl, rfl⟩
  · have HH : Hid (hiI o v = codeI o) := by unfold Hid hiI; rw [if_neg (fun h => h6 h.1)]
    have e6 : (o == 6) = false := by simpa using h6
    generalize codeI o = cc at *
    go_enter Tryz.func172, Tryz.ntmps172
    go_wp2_with (first | (go_at_call 173; refine (HC.out _).mono ?_; rintro e w1 ⟨rfl, hw1⟩; subst w1))
    go_ret
    exact ⟨by rw [HH.out]; rfl, rfl⟩

set_option maxHeartbeats 1000000 in
theorem word_any (p m : Int) (w : World) : Calls Tryz.prog 171 #[.int .u32 p, .int .u32 m] w fun e w' => Tld w (wordI p m) e w' := by
  unfold wordI
  by_cases hm : m = 4294967295
  · rw [if_pos hm]
    subst hm
    have HO : Hid ((w.alloc (Obj.cells #[.int .u16 32, .int .u8 0, .int .u8 0, .int .u32 p] 78)).ownsRow w.heap.size 78 4 (.slice (some ⟨w.heap.size, 0, none⟩) 1 1) 1 (V.cellsI [⟨32, 0, 0, p⟩])) := own_fresh w _ (Nat.le_refl _) [⟨32, 0, 0, p⟩] 1 rfl (by simp) _ rfl
    go_enter Tryz.func171, Tryz.ntmps171
    go_wp2
    go_ret
    exact ⟨_, rfl, HO.out, below_new w _⟩
  · rw [if_neg hm]
    have HO : Hid ((w.alloc (Obj.cells #[.int .u16 32, .int .u8 0, .int .u8 0, .int .u32 p] 78)).ownsRow w.heap.size 78 4 (.slice (some ⟨w.heap.size, 0, none⟩) 1 1) 1 (V.cellsI [⟨32, 0, 0, p⟩])) := own_fresh w _ (Nat.le_refl _) [⟨32, 0, 0, p⟩] 1 rfl (by simp) _ rfl
    have HW : Hid (Below w.heap.size w (w.alloc (Obj.cells #[.int .u16 32, .int .u8 0, .int .u8 0, .int .u32 p] 78))) := below_new w _
    have em : (m == 4294967295) = false := by simpa using hm
    go_enter Tryz.func171, Tryz.ntmps171
    have HX : Hid (w.heap.size ≤ (w.alloc (Obj.cells #[.int .u16 32, .int .u8 0, .int .u8 0, .int .u32 p] 78)).heap.size) := HW.out.size
    go_wp2_with (first | (at_builtin; refine app_rows rfl (.tmp 11) (.tmp 14) rfl w.heap.size _ 1 [⟨32, 0, 0, p⟩] rfl (HO.out.alloc _) w.heap.size _ 1 [⟨84, 0, 0, m⟩] rfl (own_in _ _ HX.out 84 0 0 m _ (by simp)) (by decide) (by simp; omega) ?_; intro v' w' hG; go_frame))
    go_ret
    exact ⟨_, rfl, hG.own, hG.below (HO.out.alloc _) (HW.out.alloc HW.out.size _) (by simp; omega)⟩

end Go.Proofs.YtpojlfenmanehaaGreat

