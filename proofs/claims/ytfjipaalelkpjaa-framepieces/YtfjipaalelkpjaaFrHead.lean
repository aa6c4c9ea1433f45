/-
  A head as bytes, the head of a body, and a body's frame, by package frame.
-/
import Derived.Test.YtfjipaalelkpjaaFrLeaf
namespace Go.Proofs.Ytfjipaalelkpjaa
open Go.RowKit D

theorem append_wt {w : World} {ops : Array Oper} {rest : List Oper} {o : Oper} {a : Act} {Q : Exit → Act → World → Prop} (hgd : o.guard = none) (s x : Operand)
    (ho : o.op = .call { callee := .builtin .append, args := #[s, x], argTypes := #[22, 22] })
    (v : Value) (l : List Int) (hs : a.eval s = v) (hw : Wt w v l)
    (ao : Option Addr) (m c : Nat) (k : List Int) (hx : a.eval x = .slice ao m c) (hao : ao = none → c = 0) (hb : Bs w ao m k) (hn : l.length + m ≤ 100000)
    (h : ∀ v' w', Wt w' v' (l ++ k) → w.grownBy w' v.ownBlock → (v'.ownBlock = v.ownBlock ∨ v'.ownBlock = some w.heap.size) → wpList Try.prog ops Q rest (a.put o.dst v') w') : wpList Try.prog ops Q (o :: rest) a w :=
  wpList_plain hgd fun _ hK => by
    obtain ⟨v', w', hr, h2, h3, h4⟩ := run_append_wt w o.type v l hw ao m c k hb hao hn
    unfold Oper.wp execOp
    simp only [ho, resolve, invoke, builtin, Sem.run_bind, Sem.run_pure, Result.andThen_ok, List.map_toArray, List.map_cons, List.map_nil, hs, hx, hr]
    exact hK _ _ (h v' w' h2 h3 h4)

theorem wt_made (w : World) (l : List Int) (hl : ∀ n ∈ l, 0 ≤ n ∧ n ≤ 255) (h2 : l.length ≤ maxLen) : Wt (w.alloc (.cells (cellsB l).toArray 5)) (.slice (some ⟨w.heap.size, 0, none⟩) l.length l.length) l := by
  have := wt_new w l hl l.length #[] (Nat.le_refl _) h2 (by simp)
  rwa [Array.append_empty] at this

theorem two_bd {n : Nat} (h : n ≤ 512) : ∀ z ∈ two n, 0 ≤ z ∧ z ≤ 255 := by
  intro z hz
  simp only [two, List.mem_cons, List.not_mem_nil, or_false] at hz
  rcases hz with rfl | rfl <;> omega
theorem four_bd {s : Int} (h : 0 ≤ s ∧ s ≤ 4294967295) : ∀ z ∈ four s, 0 ≤ z ∧ z ≤ 255 := by
  intro z hz
  simp only [four, List.mem_cons, List.not_mem_nil, or_false] at hz
  rcases hz with rfl | rfl | rfl | rfl <;> omega
theorem bd_app {l m : List Int} (h : ∀ z ∈ l, 0 ≤ z ∧ z ≤ 255) (h' : ∀ z ∈ m, 0 ≤ z ∧ z ≤ 255) : ∀ z ∈ l ++ m, 0 ≤ z ∧ z ≤ 255 := fun z hz => (List.mem_append.1 hz).elim (h z) (h' z)

/-- a head, as a value. -/
def hdV (x y n s : Int) : Value := .agg #[.int .u8 x, .int .u8 y, .int .i64 n, .int .u32 s]

set_option maxHeartbeats 2000000 in
theorem laid_any (x y s : Int) (n : Nat) (w : World) (hx : 0 ≤ x ∧ x ≤ 255) (hy : 0 ≤ y ∧ y ≤ 255) (hn : n ≤ 512) (hs : 0 ≤ s ∧ s ≤ 4294967295) :
    Calls Try.prog 20 #[hdV x y n s] w fun e w' => ∃ v, e = .returned v ∧ Wt w' v ([x, y] ++ (two n ++ four s)) ∧ Below w.heap.size w w' ∧ ∀ k, v.ownBlock = some k → w.heap.size ≤ k := by
  unfold hdV
  go_enter Try.func20, Try.ntmps20
  go_wp2
  go_ret
  refine ⟨_, rfl, ?_, ((Below.refl _ _).alloc (Nat.le_refl _) _).alloc (by simp) _, fun k hk => by cases hk; exact Nat.le_succ _⟩
  have := wt_made (w.alloc (.cells #[.int .u8 x, .int .u8 y, .int .i64 n, .int .u32 s] 49)) ([x, y] ++ (two n ++ four s)) (bd_app (by
    intro z hz
    simp only [List.mem_cons, List.not_mem_nil, or_false] at hz
    rcases hz with rfl | rfl <;> assumption) (bd_app (two_bd hn) (four_bd hs))) (by simp [two, four, maxLen])
  rw [size_alloc'] at this
  exact this

/-- the sum of bytes. -/
def sm (l : List Int) : Int := goS 1 l
theorem sm_bd (l : List Int) : 0 ≤ sm l ∧ sm l ≤ 4294967295 := goS_bd 1 l

set_option maxHeartbeats 2000000 in
theorem headOf_any (a : Option Addr) (len cap : Nat) (l : List Int) (w : World) (hlen : len ≤ 512) (hb : Bs w a len l) :
    Calls Try.prog 21 #[.slice a len cap] w fun e w' => e = .returned (hdV 102 76 len (sm (two len ++ l))) ∧ Below w.heap.size w w' := by
  unfold hdV
  have e1 : ∀ o, Below w.heap.size w (w.alloc o) := fun o => (Below.refl _ _).alloc (Nat.le_refl _) _
  have e2 : ∀ o o', Below w.heap.size w ((w.alloc o).alloc o') := fun o o' => (e1 o).alloc (by simp) _
  have HB : Hid (∀ o o', Bs ((w.alloc o).alloc o') a len l) := fun o o' => hb.below (e2 o o')
  have HW : Hid (∀ o, Bs ((w.alloc o).alloc (.cells #[.int .u8 ((len : Int) / 256), .int .u8 ((len : Int) % 256)] 5)) (some ⟨w.heap.size + 1, 0, none⟩) 2 (two len)) := fun o => by
    have := wt_made (w.alloc o) (two len) (two_bd hlen) (by simp [two, maxLen])
    rw [size_alloc'] at this
    obtain ⟨a, cap, h1, h2, _⟩ := this.slice
    cases h1
    exact h2
  clear hb
  go_enter Try.func21, Try.ntmps21
  go_wp2_with (first | (go_at_call 29; refine (of_any _ _ _ _ _ (by decide) (HW.out _)).mono ?_; rintro e w1 ⟨rfl, rfl⟩) | (go_at_call 28; refine (go_any _ _ _ _ _ _ (goS_bd _ _).1 (goS_bd _ _).2 (by omega) (HB.out _ _)).mono ?_; rintro e w1 ⟨rfl, rfl⟩))
  refine bodyPost_ret (v := .agg #[.int .u8 102, .int .u8 76, .int .i64 len, .int .u32 (goS (goS 1 (two len)) l)]) (by simp [results, Try.results21, go_sem]) rfl ⟨by rw [goS_app]; rfl, e2 _ _⟩

set_option maxHeartbeats 400000 in
theorem frame_none (a : Option Addr) (cap : Nat) (w : World) : Calls Try.prog 10 #[.slice a 0 cap] w fun e w' => e = .returned (.tuple #[.slice none 0 0, .int .i64 10]) ∧ w' = w := by
  go_enter Try.func10, Try.ntmps10
  go_wp2
  go_ret2
  exact ⟨rfl, rfl⟩
set_option maxHeartbeats 400000 in
theorem frame_long (a : Option Addr) (len cap : Nat) (w : World) (h : 512 < len) : Calls Try.prog 10 #[.slice a len cap] w fun e w' => e = .returned (.tuple #[.slice none 0 0, .int .i64 4]) ∧ w' = w := by
  go_enter Try.func10, Try.ntmps10
  go_wp2
  go_ret2
  exact ⟨rfl, rfl⟩
set_option maxHeartbeats 2000000 in
theorem frame_any (a : Option Addr) (len cap : Nat) (l : List Int) (w : World) (h0 : 1 ≤ len) (h1 : len ≤ 512) (hb : Bs w a len l) :
    Calls Try.prog 10 #[.slice a len cap] w fun e w' => ∃ v, e = .returned (.tuple #[v, .int .i64 0]) ∧ Wt w' v (frm sm l) ∧ Below w.heap.size w w' ∧ ∀ k, v.ownBlock = some k → w.heap.size ≤ k := by
  have hao : a = none → cap = 0 := by
    obtain ⟨b, off, rfl, _⟩ := hb.2.2 (by omega)
    intro h; cases h
  have hll := hb.1
  go_enter Try.func10, Try.ntmps10
  go_wp2_with (first
    | (go_at_call 21; refine (headOf_any a len cap l _ h1 hb).mono ?_; rintro e w1 ⟨rfl, hb1⟩)
    | (go_at_call 20; refine (laid_any 102 76 _ len _ (by decide) (by decide) h1 (sm_bd _)).mono ?_; rintro e w2 ⟨v, rfl, hw2, hb2, ho2⟩; have hb3 := hb1.trans (hb2.mono hb1.size); have hbs := hb.below hb3)
    | (refine append_wt rfl (.tmp 14) (.tmp 15) rfl v _ rfl hw2 a len cap l rfl hao hbs (by simp [two, four]; omega) ?_; intro v' w3 hw3 hg3 ho3))
  go_ret2
  refine ⟨v', rfl, ?_, hb3.grown hg3 hb3.size (fun k hk => Nat.le_trans hb1.size (ho2 k hk)), fun k hk => ?_⟩
  · have e : frm sm l = [102, 76] ++ (two len ++ four (sm (two len ++ l))) ++ l := by simp [frm, hll]
    rw [e]
    exact hw3
  · rcases ho3 with h | h
    · exact Nat.le_trans hb1.size (ho2 k (by rw [← h]; exact hk))
    · rw [h] at hk
      cases hk
      exact hb3.size

end Go.Proofs.Ytfjipaalelkpjaa
