/-
  The document's own state of a run, as it lies in memory.
-/
import Derived.Test.YtamioifoemklfaaVVGo
import Derived.Test.YtamioifoemklfaaVVRefSmall
import Derived.Test.YtamioifoemklfaaVRefCalls
namespace Go.Proofs.Ytamioifoemklfaa.V
open Go.RowKit

/-- the cells of a state. -/
def rcells (p st : Int) (s : St) (ov : Bool) : List Value :=
  [.int .i64 p, .int .i64 st, .int .u32 s.a, .int .u32 s.x, .int .u32 (s.c 0), .int .u32 (s.c 1), .int .u32 (s.c 2), .int .u32 (s.c 3), .int .u32 (s.c 4), .int .u32 (s.c 5), .int .u32 (s.c 6), .int .u32 (s.c 7), .int .u32 (s.c 8), .int .u32 (s.c 9), .int .u32 (s.c 10), .int .u32 (s.c 11), .int .u32 (s.c 12), .int .u32 (s.c 13), .int .u32 (s.c 14), .int .u32 (s.c 15), .bool ov, .int .u32 s.ans]

theorem rcells_len (p st : Int) (s : St) (ov : Bool) : (rcells p st s ov).length = 22 := rfl
theorem rcells_one (p st : Int) (s : St) (ov : Bool) : (rcells p st s ov).toArray.all (·.oneCell') = true := by simp [rcells, Value.oneCell']
theorem rcells_c (p st : Int) (s : St) (ov : Bool) (k : Nat) (hk : k < 16) : (rcells p st s ov)[4 + k]? = some (.int .u32 (s.c k)) := by
  match k, hk with
  | 0, _ | 1, _ | 2, _ | 3, _ | 4, _ | 5, _ | 6, _ | 7, _ | 8, _ | 9, _ | 10, _ | 11, _ | 12, _ | 13, _ | 14, _ | 15, _ => rfl
  | n + 16, h => omega
theorem rcells_put (p st : Int) (s : St) (ov : Bool) (k : Nat) (v : Int) (hk : k < 16) : (rcells p st s ov).set (4 + k) (.int .u32 v) = rcells p st { s with c := putC s.c k v } ov := by
  match k, hk with
  | 0, _ | 1, _ | 2, _ | 3, _ | 4, _ | 5, _ | 6, _ | 7, _ | 8, _ | 9, _ | 10, _ | 11, _ | 12, _ | 13, _ | 14, _ | 15, _ => rfl
  | n + 16, h => omega

theorem Try.size77 : (Try.prog.info? 77).map (·.size) = some 22 := by kernel_rfl

/-- a state in a block of its own. -/
def RB (w : World) (b : Nat) (p st : Int) (s : St) (ov : Bool) : Prop := Blk w b 77 (rcells p st s ov)

section
variable {w : World} {b : Nat} {p st : Int} {s : St} {ov : Bool}
theorem RB.setAt (h : RB w b p st s ov) (v : Int) : RB (w.setCell ⟨b, 0, none⟩ (.int .i64 v)) b v st s ov := h.set 0 _
theorem RB.setSteps (h : RB w b p st s ov) (v : Int) : RB (w.setCell ⟨b, 1, none⟩ (.int .i64 v)) b p v s ov := h.set 1 _
theorem RB.setA (h : RB w b p st s ov) (v : Int) : RB (w.setCell ⟨b, 2, none⟩ (.int .u32 v)) b p st { s with a := v } ov := h.set 2 _
theorem RB.setX (h : RB w b p st s ov) (v : Int) : RB (w.setCell ⟨b, 3, none⟩ (.int .u32 v)) b p st { s with x := v } ov := h.set 3 _
theorem RB.setOver (h : RB w b p st s ov) (v : Bool) : RB (w.setCell ⟨b, 20, none⟩ (.bool v)) b p st s v := h.set 20 _
theorem RB.setAns (h : RB w b p st s ov) (v : Int) : RB (w.setCell ⟨b, 21, none⟩ (.int .u32 v)) b p st { s with ans := v } ov := h.set 21 _
theorem RB.setC (h : RB w b p st s ov) (k : Nat) (hk : k < 16) (v : Int) : RB (w.setCell ⟨b, 4 + k, none⟩ (.int .u32 v)) b p st { s with c := putC s.c k v } ov := by
  have := h.set (4 + k) (.int .u32 v)
  rw [rcells_put p st s ov k v hk] at this
  exact this
end

end Go.Proofs.Ytamioifoemklfaa.V
