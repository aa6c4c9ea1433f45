/-
  A condition's one form, by the document's table: some of its rows.
-/
import Derived.Test.YtocebgkiaclekaaRefNorm
namespace Go.Proofs.Ytocebgkiaclekaa
open Go.RowKit

set_option maxRecDepth 4000 in
set_option maxHeartbeats 1600000 in
theorem refNorm_1_never (a m v y : Int) (w : World) (hr : rightB a 1 = true) (hy : bits BinOp.or IntKind.u64 v m = y) (h : ¬ y = m) :
    Calls Try.prog 17 #[.agg #[.int .i64 a, .int .i64 1, .int .u64 m, .int .u64 v]] w fun e w' => e = .returned never.val ∧ Below w.heap.size w w' := by
  have HR : Hid (∀ W : World, Calls Try.prog 11 #[.agg #[.int .i64 a, .int .i64 1, .int .u64 m, .int .u64 v]] W fun e w' => e = .returned (.bool true) ∧ Below W.heap.size W w') := fun W => hr ▸ refRight_any a 1 m v W
  have HK : Hid (Kf w [.int .i64 a, .int .i64 1, .int .u64 m, .int .u64 v] _) := kf_new w [.int .i64 a, .int .i64 1, .int .u64 m, .int .u64 v]
  clear hr
  go_enter Try.func17, Try.ntmps17
  go_wp2_with (first | (go_at_call 11; refine (HR.out _).mono ?_; rintro e w1 ⟨rfl, b1⟩; have K1 : Hid (Kf w [.int .i64 a, .int .i64 1, .int .u64 m, .int .u64 v] w1) := HK.out.over b1; have c1 := K1.out.c.cell 1; have c2 := K1.out.c.cell 2; have c3 := K1.out.c.cell 3; have n0 := K1.out.ne.cell 0; have r0 := K1.out.r.cell 0; have f0 := K1.out.r.f 0; have n1 := K1.out.ne.cell 1; have r1 := K1.out.r.cell 1; have f1 := K1.out.r.f 1; have n2 := K1.out.ne.cell 2; have r2 := K1.out.r.cell 2; have f2 := K1.out.r.f 2; have n3 := K1.out.ne.cell 3; have r3 := K1.out.r.cell 3; have f3 := K1.out.r.f 3; have n4 := K1.out.ne.cell 4; have r4 := K1.out.r.cell 4; have f4 := K1.out.r.f 4; have n5 := K1.out.ne.cell 5; have r5 := K1.out.r.cell 5; have f5 := K1.out.r.f 5; clear b1))
  refine bodyPost_ret (v := never.val) ?_ rfl ⟨rfl, ?_⟩
  · exact results_cell_row Try.results17 _ _ (w.heap.size + 1) 36 never.cells.toArray (0, 0) _ rfl ((((((K1.out.r.set 0 _).set 1 _).set 2 _).set 3 _).set 4 _).set 5 _) Try.underlying36 rfl (no_size _)
  · exact ((((((K1.out.bw.setCell (p := ⟨w.heap.size + 1, 0, none⟩) (Nat.le_succ _) _).setCell (p := ⟨w.heap.size + 1, 1, none⟩) (Nat.le_succ _) _).setCell (p := ⟨w.heap.size + 1, 2, none⟩) (Nat.le_succ _) _).setCell (p := ⟨w.heap.size + 1, 3, none⟩) (Nat.le_succ _) _).setCell (p := ⟨w.heap.size + 1, 4, none⟩) (Nat.le_succ _) _).setCell (p := ⟨w.heap.size + 1, 5, none⟩) (Nat.le_succ _) _)

set_option maxRecDepth 4000 in
set_option maxHeartbeats 1600000 in
theorem refNorm_1_plain (a m v : Int) (w : World) (hr : rightB a 1 = true) (hy : bits BinOp.or IntKind.u64 v m = m)  :
    Calls Try.prog 17 #[.agg #[.int .i64 a, .int .i64 1, .int .u64 m, .int .u64 v]] w fun e w' => e = .returned (No.mk false false false 1 m v).val ∧ Below w.heap.size w w' := by
  have HR : Hid (∀ W : World, Calls Try.prog 11 #[.agg #[.int .i64 a, .int .i64 1, .int .u64 m, .int .u64 v]] W fun e w' => e = .returned (.bool true) ∧ Below W.heap.size W w') := fun W => hr ▸ refRight_any a 1 m v W
  have HK : Hid (Kf w [.int .i64 a, .int .i64 1, .int .u64 m, .int .u64 v] _) := kf_new w [.int .i64 a, .int .i64 1, .int .u64 m, .int .u64 v]
  clear hr
  go_enter Try.func17, Try.ntmps17
  go_wp2_with (first | (go_at_call 11; refine (HR.out _).mono ?_; rintro e w1 ⟨rfl, b1⟩; have K1 : Hid (Kf w [.int .i64 a, .int .i64 1, .int .u64 m, .int .u64 v] w1) := HK.out.over b1; have c1 := K1.out.c.cell 1; have c2 := K1.out.c.cell 2; have c3 := K1.out.c.cell 3; have KA : Hid (∀ ob, Kf w [.int .i64 a, .int .i64 1, .int .u64 m, .int .u64 v] (w1.alloc ob)) := fun ob => K1.out.over (below_new _ ob); have ca1 : ∀ ob, (w1.alloc ob).cell? ⟨w.heap.size, 1, none⟩ = some (.int .i64 1) := fun ob => (KA.out ob).c.cell 1; have r0 : ∀ ob, (w1.alloc ob).cell? ⟨w.heap.size + 1, 0, none⟩ = some (.bool false) := fun ob => (KA.out ob).r.cell 0; have f0 : ∀ ob, (w1.alloc ob).frozen? ⟨w.heap.size + 1, 0, none⟩ = false := fun ob => (KA.out ob).r.f 0; have r1 : ∀ ob, (w1.alloc ob).cell? ⟨w.heap.size + 1, 1, none⟩ = some (.bool false) := fun ob => (KA.out ob).r.cell 1; have f1 : ∀ ob, (w1.alloc ob).frozen? ⟨w.heap.size + 1, 1, none⟩ = false := fun ob => (KA.out ob).r.f 1; have r2 : ∀ ob, (w1.alloc ob).cell? ⟨w.heap.size + 1, 2, none⟩ = some (.bool false) := fun ob => (KA.out ob).r.cell 2; have f2 : ∀ ob, (w1.alloc ob).frozen? ⟨w.heap.size + 1, 2, none⟩ = false := fun ob => (KA.out ob).r.f 2; have r3 : ∀ ob, (w1.alloc ob).cell? ⟨w.heap.size + 1, 3, none⟩ = some (.int .i64 0) := fun ob => (KA.out ob).r.cell 3; have f3 : ∀ ob, (w1.alloc ob).frozen? ⟨w.heap.size + 1, 3, none⟩ = false := fun ob => (KA.out ob).r.f 3; have r4 : ∀ ob, (w1.alloc ob).cell? ⟨w.heap.size + 1, 4, none⟩ = some (.int .u64 0) := fun ob => (KA.out ob).r.cell 4; have f4 : ∀ ob, (w1.alloc ob).frozen? ⟨w.heap.size + 1, 4, none⟩ = false := fun ob => (KA.out ob).r.f 4; have r5 : ∀ ob, (w1.alloc ob).cell? ⟨w.heap.size + 1, 5, none⟩ = some (.int .u64 0) := fun ob => (KA.out ob).r.cell 5; have f5 : ∀ ob, (w1.alloc ob).frozen? ⟨w.heap.size + 1, 5, none⟩ = false := fun ob => (KA.out ob).r.f 5; clear b1))
  refine bodyPost_ret (v := (No.mk false false false 1 m v).val) ?_ rfl ⟨rfl, ?_⟩
  · exact results_cell_row Try.results17 _ _ (w.heap.size + 1) 36 (No.mk false false false 1 m v).cells.toArray (0, 0) _ rfl (((((((KA.out _).r.set 0 _).set 1 _).set 2 _).set 3 _).set 4 _).set 5 _) Try.underlying36 rfl (no_size _)
  · exact (((((((KA.out _).bw.setCell (p := ⟨w.heap.size + 1, 0, none⟩) (Nat.le_succ _) _).setCell (p := ⟨w.heap.size + 1, 1, none⟩) (Nat.le_succ _) _).setCell (p := ⟨w.heap.size + 1, 2, none⟩) (Nat.le_succ _) _).setCell (p := ⟨w.heap.size + 1, 3, none⟩) (Nat.le_succ _) _).setCell (p := ⟨w.heap.size + 1, 4, none⟩) (Nat.le_succ _) _).setCell (p := ⟨w.heap.size + 1, 5, none⟩) (Nat.le_succ _) _)

set_option maxRecDepth 4000 in
set_option maxHeartbeats 1600000 in
theorem refNorm_2_always (a m v y : Int) (w : World) (hr : rightB a 2 = true) (hy : bits BinOp.or IntKind.u64 v m = y) (h : ¬ y = m) :
    Calls Try.prog 17 #[.agg #[.int .i64 a, .int .i64 2, .int .u64 m, .int .u64 v]] w fun e w' => e = .returned always.val ∧ Below w.heap.size w w' := by
  have HR : Hid (∀ W : World, Calls Try.prog 11 #[.agg #[.int .i64 a, .int .i64 2, .int .u64 m, .int .u64 v]] W fun e w' => e = .returned (.bool true) ∧ Below W.heap.size W w') := fun W => hr ▸ refRight_any a 2 m v W
  have HK : Hid (Kf w [.int .i64 a, .int .i64 2, .int .u64 m, .int .u64 v] _) := kf_new w [.int .i64 a, .int .i64 2, .int .u64 m, .int .u64 v]
  clear hr
  go_enter Try.func17, Try.ntmps17
  go_wp2_with (first | (go_at_call 11; refine (HR.out _).mono ?_; rintro e w1 ⟨rfl, b1⟩; have K1 : Hid (Kf w [.int .i64 a, .int .i64 2, .int .u64 m, .int .u64 v] w1) := HK.out.over b1; have c1 := K1.out.c.cell 1; have c2 := K1.out.c.cell 2; have c3 := K1.out.c.cell 3; have n0 := K1.out.al.cell 0; have r0 := K1.out.r.cell 0; have f0 := K1.out.r.f 0; have n1 := K1.out.al.cell 1; have r1 := K1.out.r.cell 1; have f1 := K1.out.r.f 1; have n2 := K1.out.al.cell 2; have r2 := K1.out.r.cell 2; have f2 := K1.out.r.f 2; have n3 := K1.out.al.cell 3; have r3 := K1.out.r.cell 3; have f3 := K1.out.r.f 3; have n4 := K1.out.al.cell 4; have r4 := K1.out.r.cell 4; have f4 := K1.out.r.f 4; have n5 := K1.out.al.cell 5; have r5 := K1.out.r.cell 5; have f5 := K1.out.r.f 5; clear b1))
  refine bodyPost_ret (v := always.val) ?_ rfl ⟨rfl, ?_⟩
  · exact results_cell_row Try.results17 _ _ (w.heap.size + 1) 36 always.cells.toArray (0, 0) _ rfl ((((((K1.out.r.set 0 _).set 1 _).set 2 _).set 3 _).set 4 _).set 5 _) Try.underlying36 rfl (no_size _)
  · exact ((((((K1.out.bw.setCell (p := ⟨w.heap.size + 1, 0, none⟩) (Nat.le_succ _) _).setCell (p := ⟨w.heap.size + 1, 1, none⟩) (Nat.le_succ _) _).setCell (p := ⟨w.heap.size + 1, 2, none⟩) (Nat.le_succ _) _).setCell (p := ⟨w.heap.size + 1, 3, none⟩) (Nat.le_succ _) _).setCell (p := ⟨w.heap.size + 1, 4, none⟩) (Nat.le_succ _) _).setCell (p := ⟨w.heap.size + 1, 5, none⟩) (Nat.le_succ _) _)

set_option maxRecDepth 4000 in
set_option maxHeartbeats 1600000 in
theorem refNorm_2_plain (a m v : Int) (w : World) (hr : rightB a 2 = true) (hy : bits BinOp.or IntKind.u64 v m = m)  :
    Calls Try.prog 17 #[.agg #[.int .i64 a, .int .i64 2, .int .u64 m, .int .u64 v]] w fun e w' => e = .returned (No.mk false false true 1 m v).val ∧ Below w.heap.size w w' := by
  have HR : Hid (∀ W : World, Calls Try.prog 11 #[.agg #[.int .i64 a, .int .i64 2, .int .u64 m, .int .u64 v]] W fun e w' => e = .returned (.bool true) ∧ Below W.heap.size W w') := fun W => hr ▸ refRight_any a 2 m v W
  have HK : Hid (Kf w [.int .i64 a, .int .i64 2, .int .u64 m, .int .u64 v] _) := kf_new w [.int .i64 a, .int .i64 2, .int .u64 m, .int .u64 v]
  clear hr
  go_enter Try.func17, Try.ntmps17
  go_wp2_with (first | (go_at_call 11; refine (HR.out _).mono ?_; rintro e w1 ⟨rfl, b1⟩; have K1 : Hid (Kf w [.int .i64 a, .int .i64 2, .int .u64 m, .int .u64 v] w1) := HK.out.over b1; have c1 := K1.out.c.cell 1; have c2 := K1.out.c.cell 2; have c3 := K1.out.c.cell 3; have KA : Hid (∀ ob, Kf w [.int .i64 a, .int .i64 2, .int .u64 m, .int .u64 v] (w1.alloc ob)) := fun ob => K1.out.over (below_new _ ob); have ca1 : ∀ ob, (w1.alloc ob).cell? ⟨w.heap.size, 1, none⟩ = some (.int .i64 2) := fun ob => (KA.out ob).c.cell 1; have r0 : ∀ ob, (w1.alloc ob).cell? ⟨w.heap.size + 1, 0, none⟩ = some (.bool false) := fun ob => (KA.out ob).r.cell 0; have f0 : ∀ ob, (w1.alloc ob).frozen? ⟨w.heap.size + 1, 0, none⟩ = false := fun ob => (KA.out ob).r.f 0; have r1 : ∀ ob, (w1.alloc ob).cell? ⟨w.heap.size + 1, 1, none⟩ = some (.bool false) := fun ob => (KA.out ob).r.cell 1; have f1 : ∀ ob, (w1.alloc ob).frozen? ⟨w.heap.size + 1, 1, none⟩ = false := fun ob => (KA.out ob).r.f 1; have r2 : ∀ ob, (w1.alloc ob).cell? ⟨w.heap.size + 1, 2, none⟩ = some (.bool false) := fun ob => (KA.out ob).r.cell 2; have f2 : ∀ ob, (w1.alloc ob).frozen? ⟨w.heap.size + 1, 2, none⟩ = false := fun ob => (KA.out ob).r.f 2; have r3 : ∀ ob, (w1.alloc ob).cell? ⟨w.heap.size + 1, 3, none⟩ = some (.int .i64 0) := fun ob => (KA.out ob).r.cell 3; have f3 : ∀ ob, (w1.alloc ob).frozen? ⟨w.heap.size + 1, 3, none⟩ = false := fun ob => (KA.out ob).r.f 3; have r4 : ∀ ob, (w1.alloc ob).cell? ⟨w.heap.size + 1, 4, none⟩ = some (.int .u64 0) := fun ob => (KA.out ob).r.cell 4; have f4 : ∀ ob, (w1.alloc ob).frozen? ⟨w.heap.size + 1, 4, none⟩ = false := fun ob => (KA.out ob).r.f 4; have r5 : ∀ ob, (w1.alloc ob).cell? ⟨w.heap.size + 1, 5, none⟩ = some (.int .u64 0) := fun ob => (KA.out ob).r.cell 5; have f5 : ∀ ob, (w1.alloc ob).frozen? ⟨w.heap.size + 1, 5, none⟩ = false := fun ob => (KA.out ob).r.f 5; clear b1))
  refine bodyPost_ret (v := (No.mk false false true 1 m v).val) ?_ rfl ⟨rfl, ?_⟩
  · exact results_cell_row Try.results17 _ _ (w.heap.size + 1) 36 (No.mk false false true 1 m v).cells.toArray (0, 0) _ rfl (((((((KA.out _).r.set 0 _).set 1 _).set 2 _).set 3 _).set 4 _).set 5 _) Try.underlying36 rfl (no_size _)
  · exact (((((((KA.out _).bw.setCell (p := ⟨w.heap.size + 1, 0, none⟩) (Nat.le_succ _) _).setCell (p := ⟨w.heap.size + 1, 1, none⟩) (Nat.le_succ _) _).setCell (p := ⟨w.heap.size + 1, 2, none⟩) (Nat.le_succ _) _).setCell (p := ⟨w.heap.size + 1, 3, none⟩) (Nat.le_succ _) _).setCell (p := ⟨w.heap.size + 1, 4, none⟩) (Nat.le_succ _) _).setCell (p := ⟨w.heap.size + 1, 5, none⟩) (Nat.le_succ _) _)

end Go.Proofs.Ytocebgkiaclekaa
