/-
  The program that asks a form of an argument, of every form.
-/
import Derived.Test.YtcckipimfgmmdaaGreatDoorKTstB
import Derived.Test.YtcckipimfgmmdaaGreatDoorKTstC
import Derived.Test.YtcckipimfgmmdaaGreatDoorKTstD
import Derived.Test.YtcckipimfgmmdaaGreatDoorKDec
namespace Go.Proofs.YtcckipimfgmmdaaGreatDoor
open Go.RowKit

theorem test_any : TestC := by
  intro g n rest w h0 h5 hm hv hr
  obtain ⟨al, ne, b, o, m, v⟩ := n
  dsimp only at *
  by_cases hl : V.lo m = 0
  · cases b with
    | true => exact test_Atrue al ne g o m v rest w h0 h5 hm hv hr hl
    | false => exact test_Afalse al ne g o m v rest w h0 h5 hm hv hr hl
  · by_cases hh : V.hi m = 0
    · cases b with
      | true => exact test_Btrue al ne g o m v rest w h0 h5 hm hv hr hl hh
      | false => exact test_Bfalse al ne g o m v rest w h0 h5 hm hv hr hl hh
    · by_cases ho : o = 1
      · cases b with
        | true => exact test_Ctrue al ne g o m v rest w h0 h5 hm hv hr hl hh ho
        | false => exact test_Cfalse al ne g o m v rest w h0 h5 hm hv hr hl hh ho
      · cases b with
        | true => exact test_Dtrue al ne g o m v rest w h0 h5 hm hv hr hl hh ho
        | false => exact test_Dfalse al ne g o m v rest w h0 h5 hm hv hr hl hh ho

theorem decision_any (w : World) (k a : Int) (vn vc : Value) (cs : List M.Xc) (h : M.CdR w vc cs) (hl : cs.length ≤ 20) (hc : ∀ c ∈ cs, Cok c) :
    Calls Tryz.prog 153 #[.agg #[.int .i64 k, .int .i64 a, vn, vc]] w fun e w' => Tld w ((decC k a cs).getD []) e w' := decision_of test_any w k a vn vc cs h hl hc

end Go.Proofs.YtcckipimfgmmdaaGreatDoor
