/-
  Notifications compared.
-/
import Derived.Test.YtlckconhhhllkaaBase
import Derived.Laws.StructEq
namespace Go.Proofs.Ytlckconhhhllkaa
open Go.RowKit

def sameO (k v k' v' : Int) : Bool := k == k' && v == v'
def En.same (x y : En) : Bool := x.id == y.id && x.ta == y.ta && x.st == y.st && x.le == y.le && sameO x.kd x.vl y.kd y.vl
theorem En.same_self (x : En) : x.same x = true := by simp [En.same, sameO]
theorem equalIn_out (d : Nat) (k v k' v' : Int) (w : World) : (Op.equalIn (d + 3) 35 (.agg #[.int .i64 k, .int .i64 v]) (.agg #[.int .i64 k', .int .i64 v'])).run Try.prog w = .ok (sameO k v k' v') w := by
  have u3 := Try.underlying3
  have a3 := Try.isAgg3
  have z3 := Try.sizeOf3
  have hS : Try.prog.underlying 35 = some (.struct (Try.prog.fieldsOf 35)) := by kernel_rfl
  have hp : Try.prog.stoodInHeld 35 = false := by kernel_rfl
  rw [show d + 3 = (d + 2) + 1 from rfl, run_equalIn_agg w (d + 2) 35 _ _ hS hp]
  simp only [Program.fieldsOf, Try.underlying35]
  go_simp
  unfold sameO
  by_cases h1 : k = k' <;> by_cases h2 : v = v' <;> simp [h1, h2]
theorem equalIn_en (x y : En) (w : World) : (Op.equalIn 10000 44 x.v y.v).run Try.prog w = .ok (x.same y) w := by
  have u3 := Try.underlying3
  have a3 := Try.isAgg3
  have z3 := Try.sizeOf3
  have uU := Try.underlying23
  have aU := Try.isAgg23
  have zU := Try.sizeOf23
  have aO := Try.isAgg35
  have zO := Try.sizeOf35
  have hS : Try.prog.underlying 44 = some (.struct (Try.prog.fieldsOf 44)) := by kernel_rfl
  have hp : Try.prog.stoodInHeld 44 = false := by kernel_rfl
  obtain ⟨a, b, c, d, k, v⟩ := x
  obtain ⟨a', b', c', d', k', v'⟩ := y
  have hA : ∀ W : World, (Op.equalIn 9999 35 (.agg #[.int .i64 k, .int .i64 v]) (.agg #[.int .i64 k', .int .i64 v'])).run Try.prog W = .ok (sameO k v k' v') W := fun W => equalIn_out 9996 k v k' v' W
  unfold En.v
  rw [show (10000 : Nat) = 9999 + 1 from rfl, run_equalIn_agg w 9999 44 _ _ hS hp]
  simp only [Program.fieldsOf, Try.underlying44]
  unfold En.same
  dsimp only
  generalize sameO k v k' v' = q at *
  go_simp
  by_cases h1 : a = a' <;> by_cases h2 : b = b' <;> by_cases h3 : c = c' <;> by_cases h4 : d = d' <;> cases q <;> simp [h1, h2, h3, h4]
theorem eql_en (x y : En) (w : World) : (binOp .eql 44 x.v y.v).run Try.prog w = .ok (.bool (x.same y)) w := by
  have := equalIn_en x y w
  unfold En.v at *
  rw [run_eql_struct, this]
  rfl
theorem neq_en (x y : En) (w : World) : (binOp .neq 44 x.v y.v).run Try.prog w = .ok (.bool (!x.same y)) w := by
  have := equalIn_en x y w
  unfold En.v at *
  rw [run_neq_struct, this]
  rfl
theorem neq_out (k v k' v' : Int) (w : World) : (binOp .neq 35 (.agg #[.int .i64 k, .int .i64 v]) (.agg #[.int .i64 k', .int .i64 v'])).run Try.prog w = .ok (.bool (!sameO k v k' v')) w := by
  have := equalIn_out 9997 k v k' v' w
  rw [run_neq_struct, this]
  rfl
theorem guard_en (op : BinOp) (p q : Operand) (x y : Array Value) (w : World) (hop : op = .eql ∨ op = .neq) : (eqGuard op 44 p q (.agg x) (.agg y)).run Try.prog w = .ok () w := by
  rcases hop with rfl | rfl <;> go_simp
theorem guard_out (op : BinOp) (p q : Operand) (x y : Array Value) (w : World) (hop : op = .eql ∨ op = .neq) : (eqGuard op 35 p q (.agg x) (.agg y)).run Try.prog w = .ok () w := by
  rcases hop with rfl | rfl <;> go_simp

end Go.Proofs.Ytlckconhhhllkaa
