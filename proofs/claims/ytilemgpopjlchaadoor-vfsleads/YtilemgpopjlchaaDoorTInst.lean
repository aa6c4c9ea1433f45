/-
  The program keeps what its interface tells.
-/
import Derived.Test.YtilemgpopjlchaaDoorTRs
import Derived.Test.YtilemgpopjlchaaDoorTFn
namespace Go.Proofs.YtilemgpopjlchaaDoor

theorem ifv : Ifv where
  clean := tclean_any
  names := names_any
  check := tcheck_any
  find := tfind_any
  resolve := fun v L s W h _ hs => tresolve_any v L s W h hs

end Go.Proofs.YtilemgpopjlchaaDoor
