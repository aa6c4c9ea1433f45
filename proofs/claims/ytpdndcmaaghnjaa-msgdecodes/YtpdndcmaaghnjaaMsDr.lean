/-
  The message of bytes, by the document: proved of all bytes.
-/
import Derived.Test.YtpdndcmaaghnjaaMsDrG
import Derived.Test.YtpdndcmaaghnjaaMsDr2
import Derived.Test.YtpdndcmaaghnjaaMsDrH
namespace Go.Proofs.Ytpdndcmaaghnjaa
open Go.RowKit
open D (Da Blk)

theorem refDecode_any (a : Option Addr) (len cap : Nat) (l : List Int) (w : World) (hcap : len ≤ cap) (hlen : len ≤ 2000) (hb : K.Bs w a len l) :
    Calls Try.prog 14 #[.slice a len cap] w fun e w' => e = .returned (.tuple #[(decM l).1.vl, .int .i64 (decM l).2]) ∧ Below w.heap.size w w' := by
  cases l with
  | nil => exact rd_nil a len cap w hb
  | cons k r =>
    have hl := hb.1
    have hl0 : 0 < len := by rw [← hl]; exact Nat.succ_pos _
    obtain ⟨b, off, rfl, hc⟩ := hb.2.2 hl0
    have hc0 := hc 0 hl0
    have hk := hb.2.1 k List.mem_cons_self
    have hby : D.Byt (k :: r) := hb.2.1
    by_cases h : 1 ≤ k ∧ k ≤ 7
    · have sh : ∀ n, need k = n → len < n → decM (k :: r) = (Mg.zero, 2) := fun n hn hs => tell_short rfl h hby (.inl (by rw [hl, hn]; exact hs))
      have hcs : k = 1 ∨ k = 2 ∨ k = 3 ∨ k = 4 ∨ k = 5 ∨ k = 6 ∨ k = 7 := by omega
      rcases hcs with rfl | rfl | rfl | rfl | rfl | rfl | rfl
      · by_cases hs : len < 9
        · rw [sh 9 rfl hs]; exact rd_short1 b off len cap w hl0 hc0 hs
        · exact rd_full1 b off len cap _ w hb hcap hlen rfl (by omega)
      · by_cases hs : len < 84
        · rw [sh 84 rfl hs]; exact rd_short2 b off len cap w hl0 hc0 hs
        · exact rd_full2 b off len cap _ w hb hcap hlen rfl (by omega)
      · by_cases hs : len < 17
        · rw [sh 17 rfl hs]; exact rd_short3 b off len cap w hl0 hc0 hs
        · exact rd_full3 b off len cap _ w hb hcap hlen rfl (by omega)
      · by_cases hs : len < 19
        · rw [sh 19 rfl hs]; exact rd_short4 b off len cap w hl0 hc0 hs
        · exact rd_full4 b off len cap _ w hb hcap hlen rfl (by omega)
      · by_cases hs : len < 19
        · rw [sh 19 rfl hs]; exact rd_short5 b off len cap w hl0 hc0 hs
        · exact rd_full5 b off len cap _ w hb hcap hlen rfl (by omega)
      · by_cases hs : len < 17
        · rw [sh 17 rfl hs]; exact rd_short6 b off len cap w hl0 hc0 hs
        · exact rd_full6 b off len cap _ w hb hcap hlen rfl (by omega)
      · by_cases hs : len < 19
        · rw [sh 19 rfl hs]; exact rd_short7 b off len cap w hl0 hc0 hs
        · exact rd_full7 b off len cap _ w hb hcap hlen rfl (by omega)
    · have e : decM (k :: r) = (Mg.zero, 3) := by rw [dec_at (k := k) rfl, if_pos h]
      rw [e]
      exact rd_bad b off len cap k w hl0 hc0 hk.1 hk.2 h

end Go.Proofs.Ytpdndcmaaghnjaa
