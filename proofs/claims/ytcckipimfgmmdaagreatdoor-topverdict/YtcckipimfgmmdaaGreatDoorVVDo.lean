/-
  What any instruction does to a run that does not end with it: proved of every run.
-/
import Derived.Test.YtcckipimfgmmdaaGreatDoorVVDo2
import Derived.Test.YtcckipimfgmmdaaGreatDoorVVDo3
import Derived.Test.YtcckipimfgmmdaaGreatDoorVVDo4
namespace Go.Proofs.YtcckipimfgmmdaaGreatDoor.V
open Go.RowKit

theorem do_any (x : In) (s : St) (d : Da) (b m n : Nat) (w : World) (hx : x.ok) (hs : s.ok) (hd : d.ok) (hn : n ≤ 1000000) (hne : m ≠ b) (hv : Vm w b m n d s) (hz : (kOf x.c == 52) = true → ¬ othV x s = 0) :
    Calls Tryz.prog 115 #[.pointer (some ⟨b, 0, none⟩), x.val] w fun e w' => DoTold w w' e b m n d (doV d x s) := by
  obtain ⟨c, t, f, k⟩ := x
  have hk : U32 k := hx.2.2.2
  unfold In.val
  dsimp only at *
  by_cases h0 : c = 32
  · subst h0; exact do_32 t f k s d b m n w hk hd hne hv
  by_cases h1 : c = 0
  · subst h1; exact do_0 t f k s d b m n w hd hne hv
  by_cases h2 : c = 1
  · subst h2; exact do_1 t f k s d b m n w hd hne hv
  by_cases h3 : c = 96
  · subst h3; exact do_96 t f k s d b m n w hk hd hne hv
  by_cases h4 : c = 97
  · subst h4; exact do_97 t f k s d b m n w hk hd hne hv
  by_cases h5 : c = 2
  · subst h5; exact do_2 t f k s d b m n w hk hs.1 hn hd hne hv
  by_cases h6 : c = 3
  · subst h6; exact do_3 t f k s d b m n w hk hs.2.1 hn hd hne hv
  by_cases h7 : c = 7
  · subst h7; exact do_7 t f k s d b m n w hd hne hv
  by_cases h8 : c = 135
  · subst h8; exact do_135 t f k s d b m n w hd hne hv
  by_cases h9 : c = 132
  · subst h9; exact do_132 t f k s d b m n w hd hne hv
  have e0 : (c == 32) = false := by simpa using h0
  have e1 : (c == 0) = false := by simpa using h1
  have e2 : (c == 1) = false := by simpa using h2
  have e3 : (c == 96) = false := by simpa using h3
  have e4 : (c == 97) = false := by simpa using h4
  have e5 : (c == 2) = false := by simpa using h5
  have e6 : (c == 3) = false := by simpa using h6
  have e7 : (c == 7) = false := by simpa using h7
  have e8 : (c == 135) = false := by simpa using h8
  have e9 : (c == 132) = false := by simpa using h9
  have := do_else c t f k s d b m n w hs hx hd hne hv e0 e1 e2 e3 e4 e5 e6 e7 e8 e9 hz
  unfold doV
  dsimp only
  rw [e0, e1, e2, e3, e4, e5, e6, e7, e8, e9]
  exact this

end Go.Proofs.YtcckipimfgmmdaaGreatDoor.V
