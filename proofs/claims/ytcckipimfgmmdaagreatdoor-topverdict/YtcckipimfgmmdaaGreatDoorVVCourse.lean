/-
  The closure that does what the instruction at a place says, and tells where the run goes on: proved of every run.
-/
import Derived.Test.YtcckipimfgmmdaaGreatDoorVVDo
import Derived.Test.YtcckipimfgmmdaaGreatDoorVVSkip
namespace Go.Proofs.YtcckipimfgmmdaaGreatDoor.V
open Go.RowKit

/-- where a run goes on, and what it comes to. -/
def nextV (len : Nat) (d : Da) (x : In) (p : Nat) (s : St) : Int × St :=
  if endV x s = true then ((len : Int), { s with ans := tellV x s }) else (p + 1 + skipV x (doV d x s), doV d x s)

/-- what the closure caught, and the instruction that it copied, beside the run; gone on from a world. -/
structure Sc (w : World) (bl bp b m g n : Nat) (sl : Value) (x : In) (d : Da) (s : St) (X : World) : Prop where
  cl : X.cell? ⟨bl, 0, none⟩ = some sl
  cp : X.cell? ⟨bp, 0, none⟩ = some (.pointer (some ⟨b, 0, none⟩))
  ci : In.at x X g 0
  vm : Vm X b m n d s
  bt : But b m w X

/-- the blocks are other ones than the run's. -/
structure Far (bl bp b m g : Nat) : Prop where
  l1 : bl ≠ b
  l2 : bl ≠ m
  p1 : bp ≠ b
  p2 : bp ≠ m
  g1 : g ≠ b
  g2 : g ≠ m
  ne : m ≠ b

section
variable {w X Y : World} {bl bp b m g n n' : Nat} {sl : Value} {x : In} {d : Da} {s s' : St}
theorem Sc.on (h : Sc w bl bp b m g n sl x d s X) (k : But b m X Y) (hv : Vm Y b m n' d s') (hf : Far bl bp b m g) : Sc w bl bp b m g n' sl x d s' Y := by
  have key : ∀ {j i : Nat} {v : Value}, X.cell? ⟨j, i, none⟩ = some v → j ≠ b → j ≠ m → Y.cell? ⟨j, i, none⟩ = some v := by
    intro j i v hc h1 h2
    rw [← hc]
    exact World.cell?_of_block (w := X) (k.block j (World.block_lt_of_cell? X _ hc) h1 h2)
  obtain ⟨q1, q2, q3, q4⟩ := h.ci
  exact ⟨key h.cl hf.l1 hf.l2, key h.cp hf.p1 hf.p2, ⟨key q1 hf.g1 hf.g2, key q2 hf.g1 hf.g2, key q3 hf.g1 hf.g2, key q4 hf.g1 hf.g2⟩, hv, h.bt.trans k⟩
theorem Sc.over (h : Sc w bl bp b m g n sl x d s X) (k : Below X.heap.size X Y) (hf : Far bl bp b m g) : Sc w bl bp b m g n sl x d s Y := h.on (But.of k) (h.vm.over k) hf
theorem Sc.drew (h : Sc w bl bp b m g n sl x d s X) : Sc w bl bp b m g n sl x d s X.drew := ⟨h.cl, h.cp, h.ci, h.vm.drew, h.bt.drew⟩
end

/-- what is told of a place that was gone through. -/
def WentTold (w w' : World) (e : Ending) (b m n : Nat) (d : Da) (p : Int × St) : Prop := e = .returned (.int .i64 p.1) ∧ Vm w' b m (n + 1) d p.2 ∧ But b m w w'

set_option maxHeartbeats 4000000 in
theorem course_any (p len cap : Nat) (a : Option Addr) (ins : List In) (bl bp b m n : Nat) (d : Da) (s : St) (w : World) (hlen : len ≤ 4096) (h : Ins w a len ins) (hp : p < len) (hs : s.ok) (hd : d.ok) (hn : n ≤ 1000000)
    (cl : w.cell? ⟨bl, 0, none⟩ = some (.slice a len cap)) (cp : w.cell? ⟨bp, 0, none⟩ = some (.pointer (some ⟨b, 0, none⟩))) (hv : Vm w b m n d s) (l1 : bl ≠ b) (l2 : bl ≠ m) (p1 : bp ≠ b) (p2 : bp ≠ m) (hne : m ≠ b)
    (x : In) (hx : ins[p]? = some x) (hz : endV x s = false → (kOf x.c == 52) = true → ¬ othV x s = 0) :
    Calls Tryz.prog 112 #[.int .i64 p, .pointer (some ⟨bl, 0, none⟩), .pointer (some ⟨bp, 0, none⟩)] w fun e w' => WentTold w w' e b m n d (nextV len d x p s) := by
  have hxo : x.ok := h.2.1 x (List.mem_of_getElem? hx)
  have hf : Far bl bp b m w.heap.size := ⟨l1, l2, p1, p2, by have := hv.1.lt; omega, by have := hv.2.lt; omega, hne⟩
  obtain ⟨ib, off, rfl, hc⟩ := h.2.2 (by omega)
  obtain ⟨q1, q2, q3, q4⟩ := hc p x hx
  have HF : Hid (Far bl bp b m w.heap.size) := hf
  have HV : Hid (nextV len d x p s = if endV x s = true then ((len : Int), { s with ans := tellV x s }) else (p + 1 + skipV x (doV d x s), doV d x s)) := rfl
  have S1 : Sc w bl bp b m w.heap.size n (.slice (some ⟨ib, off, none⟩) len cap) x d s (w.alloc (Obj.cells #[.int .u16 x.c, .int .u8 x.t, .int .u8 x.f, .int .u32 x.k] 60)) :=
    ⟨((below_new w _).cell (World.block_lt_of_cell? w _ cl)).trans cl, ((below_new w _).cell (World.block_lt_of_cell? w _ cp)).trans cp, at_new w x, hv.over (below_new w _), But.of (below_new w _)⟩
  have HE : Hid (∀ X, Sc w bl bp b m w.heap.size n (.slice (some ⟨ib, off, none⟩) len cap) x d s X → Calls Tryz.prog 113 #[.pointer (some ⟨b, 0, none⟩), x.val] X fun e w' => e = .returned (.bool (endV x s)) ∧ Sc w bl bp b m w.heap.size n (.slice (some ⟨ib, off, none⟩) len cap) x d s w') := by
    intro X hX
    refine (endsWith_any x s d b m n X hd hX.vm).mono ?_
    rintro e w' ⟨rfl, hb⟩
    exact ⟨rfl, hX.over hb hf⟩
  have hi1 : (p : Int) < (len : Int) := by omega
  cases hend : endV x s with
  | true =>
    have HT : Hid (∀ X, Sc w bl bp b m w.heap.size n (.slice (some ⟨ib, off, none⟩) len cap) x d s X → Calls Tryz.prog 114 #[.pointer (some ⟨b, 0, none⟩), x.val] X fun e w' => e = .returned (.int .u32 (tellV x s)) ∧ Sc w bl bp b m w.heap.size n (.slice (some ⟨ib, off, none⟩) len cap) x d s w') := by
      intro X hX
      refine (told_any x s d b m n X hd hX.vm).mono ?_
      rintro e w' ⟨rfl, hb⟩
      exact ⟨rfl, hX.over hb hf⟩
    have HG : Hid (∀ X, Sc w bl bp b m w.heap.size n (.slice (some ⟨ib, off, none⟩) len cap) x d s X → Sc w bl bp b m w.heap.size n (.slice (some ⟨ib, off, none⟩) len cap) x d { s with ans := tellV x s } (X.setCell ⟨b, 12, none⟩ (.int .u32 (tellV x s)))) := fun X hX => hX.on ((But.refl _ _ _).set _ _) (hX.vm.setAns hd hne _) hf
    have HD : Hid d.ok := hd
    rw [hend] at HV HE
    have HV2 : Hid (nextV len d x p s = ((len : Int), { s with ans := tellV x s })) := by unfold Hid; rw [HV.out, if_pos rfl]
    clear HV hz hxo hd hs hf hv h hx hc hend
    have HS1 : Hid (Sc w bl bp b m w.heap.size n (.slice (some ⟨ib, off, none⟩) len cap) x d s (w.alloc (Obj.cells #[.int .u16 x.c, .int .u8 x.t, .int .u8 x.f, .int .u32 x.k] 60))) := S1
    generalize nextV len d x p s = z at *
    obtain ⟨c, t, f, k⟩ := x
    unfold In.val at *
    dsimp only at *
    generalize tellV ⟨c, t, f, k⟩ s = v at *
    obtain ⟨z1, z2⟩ := z
    have e1 : Hid (z1 = (len : Int)) := by have := HV2.out; injection this
    have e2 : Hid (z2 = { s with ans := v }) := by have := HV2.out; injection this
    clear HV2
    obtain ⟨-, cp1, ⟨i1, i2, i3, i4⟩, -, -⟩ := S1
    go_enter Tryz.func112, Tryz.ntmps112
    go_wp2_with (first | (go_at_call 113; refine (HE.out _ HS1.out).mono ?_; rintro e w2 ⟨rfl, S2⟩; have HS2 : Hid (Sc w bl bp b m w.heap.size n (.slice (some ⟨ib, off, none⟩) len cap) ⟨c, t, f, k⟩ d s w2) := S2; obtain ⟨-, cp2, ⟨j1, j2, j3, j4⟩, -, -⟩ := S2))
    have HQ : Hid (Calls Tryz.prog 114 #[.pointer (some ⟨b, 0, none⟩), .agg #[.int .u16 c, .int .u8 t, .int .u8 f, .int .u32 k]] w2.drew fun e w' => e = .returned (.int .u32 v) ∧ ((fun X => X.cell? ⟨bp, 0, none⟩ = some (.pointer (some ⟨b, 0, none⟩)) ∧ X.cell? ⟨w.heap.size, 0, none⟩ = some (.int .u16 c) ∧ X.cell? ⟨w.heap.size, 1, none⟩ = some (.int .u8 t) ∧ X.cell? ⟨w.heap.size, 2, none⟩ = some (.int .u8 f) ∧ X.cell? ⟨w.heap.size, 3, none⟩ = some (.int .u32 k)) w' ∧ w'.cell? ⟨b, 12, none⟩ = some (.int .u32 s.ans) ∧ w'.frozen? ⟨b, 12, none⟩ = false ∧ (fun X => X.cell? ⟨bp, 0, none⟩ = some (.pointer (some ⟨b, 0, none⟩)) ∧ X.cell? ⟨w.heap.size, 0, none⟩ = some (.int .u16 c) ∧ X.cell? ⟨w.heap.size, 1, none⟩ = some (.int .u8 t) ∧ X.cell? ⟨w.heap.size, 2, none⟩ = some (.int .u8 f) ∧ X.cell? ⟨w.heap.size, 3, none⟩ = some (.int .u32 k)) (w'.setCell ⟨b, 12, none⟩ (.int .u32 v)) ∧ (w'.setCell ⟨b, 12, none⟩ (.int .u32 v)).cell? ⟨bl, 0, none⟩ = some (.slice (some ⟨ib, off, none⟩) len cap) ∧ Hid (Sc w bl bp b m w.heap.size n (.slice (some ⟨ib, off, none⟩) len cap) ⟨c, t, f, k⟩ d { s with ans := v } (w'.setCell ⟨b, 12, none⟩ (.int .u32 v))))) := by
      refine (HT.out _ HS2.out.drew).mono ?_
      rintro e w' ⟨rfl, h'⟩
      have h2 := HG.out _ h'
      exact ⟨rfl, ⟨h'.cp, h'.ci⟩, (h'.vm.cells HD.out).2.2.2, h'.vm.f 12, ⟨h2.cp, h2.ci⟩, h2.cl, h2⟩
    clear HT HG HE HS1 HS2 cl cp cp1 i1 i2 i3 i4 q1 q2 q3 q4
    go_region_held3 (fun X => X.cell? ⟨bp, 0, none⟩ = some (.pointer (some ⟨b, 0, none⟩)) ∧ X.cell? ⟨w.heap.size, 0, none⟩ = some (.int .u16 c) ∧ X.cell? ⟨w.heap.size, 1, none⟩ = some (.int .u8 t) ∧ X.cell? ⟨w.heap.size, 2, none⟩ = some (.int .u8 f) ∧ X.cell? ⟨w.heap.size, 3, none⟩ = some (.int .u32 k)) (first | assumption | go_keep) (first | (go_at_call 114; refine (HQ.out).mono ?_; rintro e w5 ⟨rfl, hS5, c5, f5, kS5, cl5, G5⟩))
    all_goals
      go_wp2
      go_ret
      rw [e1.out, e2.out]
      exact ⟨rfl, (G5.out.vm).mono (Nat.le_succ _), G5.out.bt⟩
  | false =>
    have HO : Hid (∀ X, Sc w bl bp b m w.heap.size n (.slice (some ⟨ib, off, none⟩) len cap) x d s X → Calls Tryz.prog 115 #[.pointer (some ⟨b, 0, none⟩), x.val] X fun e w' => e = .returned (.tuple #[]) ∧ Sc w bl bp b m w.heap.size (n + 1) (.slice (some ⟨ib, off, none⟩) len cap) x d (doV d x s) w') := by
      intro X hX
      refine (do_any x s d b m n X hxo hs hd hn hne hX.vm (hz hend)).mono ?_
      rintro e w' ⟨rfl, hv', hb⟩
      exact ⟨rfl, hX.on hb hv' hf⟩
    have HK : Hid (∀ X, Sc w bl bp b m w.heap.size (n + 1) (.slice (some ⟨ib, off, none⟩) len cap) x d (doV d x s) X → Calls Tryz.prog 116 #[.pointer (some ⟨b, 0, none⟩), x.val] X fun e w' => e = .returned (.int .i64 (skipV x (doV d x s))) ∧ Sc w bl bp b m w.heap.size (n + 1) (.slice (some ⟨ib, off, none⟩) len cap) x d (doV d x s) w') := by
      intro X hX
      refine (skip_any x _ d b m (n + 1) X hxo hd hX.vm).mono ?_
      rintro e w' ⟨rfl, hb⟩
      exact ⟨rfl, hX.over hb hf⟩
    rw [hend] at HV HE
    have HV2 : Hid (nextV len d x p s = (p + 1 + skipV x (doV d x s), doV d x s)) := by unfold Hid; rw [HV.out, if_neg (by decide)]
    have hb : 0 ≤ skipV x (doV d x s) ∧ skipV x (doV d x s) ≤ 4294967295 := by
      unfold In.ok at hxo
      unfold skipV
      repeat' split
      all_goals omega
    clear HV hz hxo hd hs hf hv h hx hc hend
    have HS1 : Hid (Sc w bl bp b m w.heap.size n (.slice (some ⟨ib, off, none⟩) len cap) x d s (w.alloc (Obj.cells #[.int .u16 x.c, .int .u8 x.t, .int .u8 x.f, .int .u32 x.k] 60))) := S1
    generalize nextV len d x p s = z at *
    generalize doV d x s = s' at *
    generalize skipV x s' = sk at *
    obtain ⟨c, t, f, k⟩ := x
    unfold In.val at *
    dsimp only at *
    obtain ⟨z1, z2⟩ := z
    have e1 : Hid (z1 = p + 1 + sk) := by have := HV2.out; injection this
    have e2 : Hid (z2 = s') := by have := HV2.out; injection this
    clear HV2
    obtain ⟨-, cp1, ⟨i1, i2, i3, i4⟩, -, -⟩ := S1
    go_enter Tryz.func112, Tryz.ntmps112
    go_wp2_with (first | (go_at_call 113; refine (HE.out _ HS1.out).mono ?_; rintro e w2 ⟨rfl, S2⟩; have HS2 : Hid (Sc w bl bp b m w.heap.size n (.slice (some ⟨ib, off, none⟩) len cap) ⟨c, t, f, k⟩ d s w2) := S2; obtain ⟨-, cp2, ⟨j1, j2, j3, j4⟩, -, -⟩ := S2) | (go_at_call 115; refine (HO.out _ HS2.out).mono ?_; rintro e w3 ⟨rfl, S3⟩; have HS3 : Hid (Sc w bl bp b m w.heap.size (n + 1) (.slice (some ⟨ib, off, none⟩) len cap) ⟨c, t, f, k⟩ d s' w3) := S3; obtain ⟨-, cp3, ⟨k1, k2, k3, k4⟩, -, -⟩ := S3) | (go_at_call 116; refine (HK.out _ HS3.out).mono ?_; rintro e w4 ⟨rfl, S4⟩; have HS4 : Hid (Sc w bl bp b m w.heap.size (n + 1) (.slice (some ⟨ib, off, none⟩) len cap) ⟨c, t, f, k⟩ d s' w4) := S4; clear S4))
    go_ret
    rw [e1.out, e2.out]
    exact ⟨by go_num, HS4.out.vm, HS4.out.bt⟩

end Go.Proofs.YtcckipimfgmmdaaGreatDoor.V
