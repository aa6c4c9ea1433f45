/-
  What the program's calls tell, as an interface; a call that goes on.
-/
import Derived.Test.YtkhojihmnplmcaaRCl
import Derived.Test.YtkhojihmnplmcaaMath2
namespace Go.Proofs.Ytkhojihmnplmcaa
open Go.RowKit

/-- what a call tells; nothing that was there has turned. -/
def Tells (W : World) (v : Value) (e : Ending) (w' : World) : Prop := e = .returned v ∧ Below W.heap.size W w'
structure Ifp : Prop where
  right : ∀ (s : ByteArray) (W : World), s.size ≤ 5000 → Calls Try.prog 14 #[.string s] W (Tells W (.bool (rightP (lst s))))
  clean : ∀ (s : ByteArray) (W : World), s.size ≤ 5000 → Calls Try.prog 10 #[.string s] W (Tells W (.tuple #[.string (bar (cleanP (lst s))), .int .i64 (errP (lst s))]))
  up : ∀ (s : ByteArray) (W : World), s.size ≤ 5000 → Calls Try.prog 12 #[.string s] W (Tells W (.tuple #[.string (bar (upP (lst s))), .int .i64 (errP (lst s))]))
  within : ∀ (s d : ByteArray) (W : World), s.size ≤ 5000 → d.size ≤ 5000 → Calls Try.prog 20 #[.string s, .string d] W (Tells W (.bool (withinP (lst s) (lst d))))

set_option maxHeartbeats 2000000 in
theorem awake_any (J : Ifp) (w : World) : Calls Try.prog 9 #[] w (Tells w (.bool true)) := by
  go_enter Try.func9, Try.ntmps9
  go_wp2_with fail
  refine (J.clean _ w (by decide)).mono ?_
  rintro e w1 ⟨he, hb1⟩
  have he2 : e = .returned (.tuple #[.string ⟨#[47, 97, 47, 99]⟩, .int .i64 0]) := he
  subst he2
  have HB : Hid (Below w.heap.size w w1) := hb1
  clear he hb1
  go_wp2_with fail
  refine (J.within _ _ w1 (by decide) (by decide)).mono ?_
  rintro e w2 ⟨he, hb2⟩
  have he2 : e = .returned (.bool true) := he
  subst he2
  have HB2 : Hid (Below w.heap.size w w2) := HB.out.trans (hb2.mono HB.out.size)
  clear he hb2
  go_wp2_with fail
  go_ret
  exact ⟨rfl, HB2.out⟩

end Go.Proofs.Ytkhojihmnplmcaa
