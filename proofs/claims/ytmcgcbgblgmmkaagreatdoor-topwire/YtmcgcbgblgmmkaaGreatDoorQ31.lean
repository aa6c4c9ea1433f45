/-
  KTest.
-/
import Derived.Test.YtmcgcbgblgmmkaaGreatDoorQ29
import Derived.Test.YtmcgcbgblgmmkaaGreatDoorQ30
namespace Go.Proofs.YtmcgcbgblgmmkaaGreatDoor
open Go.RowKit
def wordI (p m : Int) : List V.In := ⟨32, 0, 0, p⟩ :: (if m = 4294967295 then [] else [⟨84, 0, 0, m⟩])
def codeI (o : Int) : Int := if o = 5 then 37 else if o = 6 then 53 else 21
def hiI (o lv : Int) : Int := if o = 6 /\ 0 < lv then 37 else codeI o
def lowI (g : Int) (n : C.No) (yes no : Nat) : List V.In := wordI (16 + 8 * g) (V.lo n.m) ++ [⟨codeI n.o, yes, no, V.lo n.v⟩]
def highI (g : Int) (n : C.No) (yes no : Nat) : List V.In :=
 wordI (16 + 8 * g + 4) (V.hi n.m) ++ ((if n.o = 1 then [] else [⟨37, (1 + (lowI g n yes no).length + yes : Nat), 0, V.hi n.v⟩]) ++ [⟨21, 0, ((lowI g n yes no).length + no : Nat), V.hi n.v⟩])
def testY (g : Int) (n : C.No) (yes no : Nat) : List V.In :=
 if V.lo n.m = 0 then wordI (16 + 8 * g + 4) (V.hi n.m) ++ [⟨hiI n.o (V.lo n.v), yes, no, V.hi n.v⟩]
 else if V.hi n.m = 0 then lowI g n yes no else highI g n yes no ++ lowI g n yes no
def testI (g : Int) (n : C.No) (rest : Nat) : List V.In := if n.no = true then testY g n rest 0 else testY g n 0 rest
theorem word_len (p m : Int) : 1 <= (wordI p m).length /\ (wordI p m).length <= 2 := by
 unfold wordI
 split <;> simp
theorem low_len (g : Int) (n : C.No) (yes no : Nat) : 2 <= (lowI g n yes no).length /\ (lowI g n yes no).length <= 3 := by
 unfold lowI
 have := word_len (16 + 8 * g) (V.lo n.m)
 rw [List.length_append, List.length_singleton]
 omega
theorem high_len (g : Int) (n : C.No) (yes no : Nat) : (highI g n yes no).length <= 4 := by
 unfold highI
 have := word_len (16 + 8 * g + 4) (V.hi n.m)
 rw [List.length_append, List.length_append, List.length_singleton]
 split
 ·simp; omega
 ·simp; omega
theorem testY_len (g : Int) (n : C.No) (yes no : Nat) : 2 <= (testY g n yes no).length /\ (testY g n yes no).length <= 7 := by
 have h1 := word_len (16 + 8 * g + 4) (V.hi n.m)
 have h2 := low_len g n yes no
 have h3 := high_len g n yes no
 unfold testY
 repeat' split
 ·rw [List.length_append, List.length_singleton]; omega
 ·omega
 ·rw [List.length_append]; omega
theorem testI_len (g : Int) (n : C.No) (rest : Nat) : 2 <= (testI g n rest).length /\ (testI g n rest).length <= 7 := by
 unfold testI
 split
 ·exact testY_len ..
 ·exact testY_len ..
theorem testY_head (g : Int) (n : C.No) (yes no : Nat) : ∃ k r, testY g n yes no = ⟨32, 0, 0, k⟩ :: r := by
 unfold testY highI lowI wordI
 repeat' split
 all_goals exact ⟨_, _, rfl⟩
theorem testI_head (g : Int) (n : C.No) (rest : Nat) : ∃ k r, testI g n rest = ⟨32, 0, 0, k⟩ :: r := by
 unfold testI
 split
 ·exact testY_head ..
 ·exact testY_head ..
theorem arg_u (d : M.Da) (hd : d.ok) (k : Nat) : V.U64 (d.g.getD k 0) := by
 by_cases h : k < d.g.length
 ·rw [List.getD_eq_getElem?_getD, List.getElem?_eq_getElem h]
  exact hd.2.2.2.2 _ (List.getElem_mem h)
 ·rw [List.getD_eq_getElem?_getD, List.getElem?_eq_none (by omega)]
  exact ⟨by decide, by decide⟩
theorem holds53 (a k : Int) : V.holdsV 53 a k = decide (k <= a) := rfl
end Go.Proofs.YtmcgcbgblgmmkaaGreatDoor
