/-
  The reader's small methods: what must hold, a token passed, a token of a text.
-/
import Derived.Test.YtcckipimfgmmdaaGreatDoorPRd
namespace Go.Proofs.YtcckipimfgmmdaaGreatDoor.P
open Go.RowKit

/-- what a text is given up with. -/
def fltC (c p : Nat) : List PanicEntry := [{ v := .iface 73 (.agg #[.int .i64 c, .int .i64 p]), recovered := false }]
def flt (c p : Nat) : Ending := .panicked (fltC c p)

theorem fld0 (a b : Int) (s : ByteArray) (n : Int) (W : World) : (Instr.field 108 (.agg #[.int .i64 a, .int .i64 b, .string s, .int .u64 n]) 0).run Tryz.prog W = .ok (.int .i64 a) W := by kernel_rfl
theorem fld1 (a b : Int) (s : ByteArray) (n : Int) (W : World) : (Instr.field 108 (.agg #[.int .i64 a, .int .i64 b, .string s, .int .u64 n]) 1).run Tryz.prog W = .ok (.int .i64 b) W := by kernel_rfl
theorem fld2 (a b : Int) (s : ByteArray) (n : Int) (W : World) : (Instr.field 108 (.agg #[.int .i64 a, .int .i64 b, .string s, .int .u64 n]) 2).run Tryz.prog W = .ok (.string s) W := by kernel_rfl
theorem fld3 (a b : Int) (s : ByteArray) (n : Int) (W : World) : (Instr.field 108 (.agg #[.int .i64 a, .int .i64 b, .string s, .int .u64 n]) 3).run Tryz.prog W = .ok (.int .u64 n) W := by kernel_rfl

theorem needs_ok (w : World) (b : Nat) (c : Int) : Calls Tryz.prog 76 #[.pointer (some ⟨b, 0, none⟩), .bool true, .int .i64 c] w fun e w' => e = .returned (.tuple #[]) ∧ w' = w := by
  go_enter Tryz.func76, Tryz.ntmps76
  go_wp2
  go_end0
  exact ⟨rfl, rfl⟩

theorem needs_no (w : World) (b g cap n : Nat) (ts : List Tok) (h : Rd w b g cap ts n) (hn : n < ts.length) (c : Nat) :
    Calls Tryz.prog 76 #[.pointer (some ⟨b, 0, none⟩), .bool false, .int .i64 c] w fun e w' => e = flt c ts[n].at' ∧ Below w.heap.size w w' := by
  have HN : Hid (Calls Tryz.prog 46 #[.pointer (some ⟨b, 0, none⟩)] w fun e w' => e = .returned (tokV ts[n]) ∧ Below w.heap.size w w') := next_any w b g cap n ts h hn
  have h1 := fld1
  unfold tokV at HN
  generalize ts[n] = x at *
  obtain ⟨xk, xa, xt, xn⟩ := x
  dsimp only at *
  clear h
  go_enter Tryz.func76, Tryz.ntmps76
  go_wp2_with (go_at_call 46; refine HN.out.mono ?_; rintro e w1 ⟨rfl, b1⟩)
  exact ⟨rfl, rfl, b1⟩

/-- a token's cells. -/
def tokL (x : Tok) : List Value := [.int .i64 x.k, .int .i64 x.at', .string (bar x.t), .int .u64 x.n]
theorem tokL_size (x : Tok) : (Tryz.prog.info? 108).map (·.size) = some (tokL x).toArray.size := Tryz.size108

theorem tokL_one (x : Tok) : (tokL x).toArray.all (·.oneCell') = true := by simp [tokL, Value.oneCell']

set_option maxHeartbeats 2000000 in
set_option maxRecDepth 8000 in
theorem pass_any (w : World) (b g cap n : Nat) (ts : List Tok) (h : Rd w b g cap ts n) (hn : n < ts.length) (hn1 : n + 1 < ts.length) :
    Calls Tryz.prog 79 #[.pointer (some ⟨b, 0, none⟩)] w fun e w' => e = .returned (tokV ts[n]) ∧ Bt b w w' ∧ Rd w' b g cap ts (n + 1) := by
  have A0 : Hid (Kr w b g cap ts n 108 [.int .i64 0, .int .i64 0, .string ⟨#[]⟩, .int .u64 0] (w.alloc (Obj.cells #[.int .i64 0, .int .i64 0, .string ⟨#[]⟩, .int .u64 0] 108))) := kr_new h hn 108 _
  have HN : Hid (∀ W, Rd W b g cap ts n → Calls Tryz.prog 46 #[.pointer (some ⟨b, 0, none⟩)] W fun e w' => e = .returned (.agg #[.int .i64 ts[n].k, .int .i64 ts[n].at', .string (bar ts[n].t), .int .u64 ts[n].n]) ∧ Below W.heap.size W w') := fun W hW => next_any W b g cap n ts hW hn
  have hL : 1 ≤ ts.length - n := by omega
  have hC : ts.length - n ≤ cap - n := by have := h.le; omega
  have hC1 : 1 ≤ cap - n := by omega
  have hC2 : cap - n ≤ 9223372036854775807 := by have := h.cap; omega
  have hC3 : ¬ cap - n = 1 := by omega
  have HO : Hid (Value.slice (some ⟨g, n * 4 + 4, none⟩) (ts.length - n - 1) (cap - n - 1) = Value.slice (some ⟨g, (n + 1) * 4, none⟩) (ts.length - (n + 1)) (cap - (n + 1))) := by
    show _ = _
    rw [show (n + 1) * 4 = n * 4 + 4 by omega, show ts.length - (n + 1) = ts.length - n - 1 by omega, show cap - (n + 1) = cap - n - 1 by omega]
  have HS := tokL_size ts[n]
  have HU := tokL_one ts[n]
  have HX : Hid (tokL ts[n] = [.int .i64 ts[n].k, .int .i64 ts[n].at', .string (bar ts[n].t), .int .u64 ts[n].n] ∧ tokV ts[n] = .agg #[.int .i64 ts[n].k, .int .i64 ts[n].at', .string (bar ts[n].t), .int .u64 ts[n].n]) := ⟨rfl, rfl⟩
  clear h
  generalize ts[n] = x at *
  go_enter Tryz.func79, Tryz.ntmps79
  go_wp2_with fail
  generalize w.alloc (Obj.cells #[.int .i64 0, .int .i64 0, .string ⟨#[]⟩, .int .u64 0] 108) = W0 at *
  go_wp2_with (first | (go_at_call 46; refine (HN.out _ A0.out.rd).mono ?_; rintro e w1 ⟨rfl, b1⟩; have A1 : Hid (Kq w b g cap ts n 108 [.int .i64 0, .int .i64 0, .string ⟨#[]⟩, .int .u64 0] w1.heap.size 108 (tokL x) (w1.alloc (Obj.cells #[.int .i64 x.k, .int .i64 x.at', .string (bar x.t), .int .u64 x.n] 108))) := (A0.out.over b1).new 108 _; have c0 : (w1.alloc (Obj.cells #[.int .i64 x.k, .int .i64 x.at', .string (bar x.t), .int .u64 x.n] 108)).cell? ⟨b, 0, none⟩ = some (.slice (some ⟨g, n * 4, none⟩) (ts.length - n) (cap - n)) := A1.out.rd.blk.cell 0; have f0 := A1.out.rd.blk.f 0; obtain ⟨Z, hZ⟩ : ∃ Z, (w1.alloc (Obj.cells #[.int .i64 x.k, .int .i64 x.at', .string (bar x.t), .int .u64 x.n] 108)).setCell ⟨b, 0, none⟩ (.slice (some ⟨g, n * 4 + 4, none⟩) (ts.length - n - 1) (cap - n - 1)) = Z := ⟨_, rfl⟩; have HZ : Hid ((w1.alloc (Obj.cells #[.int .i64 x.k, .int .i64 x.at', .string (bar x.t), .int .u64 x.n] 108)).setCell ⟨b, 0, none⟩ (.slice (some ⟨g, n * 4 + 4, none⟩) (ts.length - n - 1) (cap - n - 1)) = Z) := hZ; have A2 : Hid (Kq w b g cap ts (n + 1) 108 [.int .i64 0, .int .i64 0, .string ⟨#[]⟩, .int .u64 0] w1.heap.size 108 (tokL x) Z) := (by rw [← hZ, HO.out]; exact A1.out.on ((Bt.refl b _).setCell 0 _) (A1.out.rd.set (n + 1))); clear hZ) | (refine switch_world' HZ.out ?_) | (refine at_op' (.load 108 (.tmp 3)) rfl ?_; refine wpList_load_row rfl 108 (.tmp 3) rfl w1.heap.size rfl 108 (tokL x).toArray (0, 0) _ A2.out.blk Tryz.underlying108 rfl HS ?_) | (refine at_op' (.store 108 (.tmp 2) (.tmp 14)) rfl ?_; refine wpList_store_row rfl 108 (.tmp 2) (.tmp 14) rfl w.heap.size (tokL x).toArray rfl rfl 108 _ A2.out.kr.blk HS rfl HU ?_))
  refine bodyPost_ret (v := tokV x) ?_ rfl ⟨rfl, (A2.out.row (tokL x)).kr.bt, (A2.out.row (tokL x)).rd⟩
  exact results_cell_row Tryz.results79 _ _ w.heap.size 108 (tokL x).toArray (0, 0) _ rfl (A2.out.row (tokL x)).kr.blk Tryz.underlying108 rfl HS

/-- texts, as the walk compares them. -/
theorem txt_ne (l : List UInt8) (t : ByteArray) : ((bar l).toList != t.toList) = !(l == lst t) := by
  rw [ByteArray.toList_eq, ByteArray.toList_eq]
  show (lst (bar l) != lst t) = _
  rw [lst_bar]
  rfl
theorem txt_eq (l : List UInt8) (t : ByteArray) : ((bar l).toList == t.toList) = (l == lst t) := by
  rw [ByteArray.toList_eq, ByteArray.toList_eq]
  show (lst (bar l) == lst t) = _
  rw [lst_bar]

set_option maxHeartbeats 2000000 in
theorem passIf_no (w : World) (b g cap n : Nat) (ts : List Tok) (h : Rd w b g cap ts n) (hn : n < ts.length) (s : ByteArray) (hs : (ts[n].t == lst s) = false) :
    Calls Tryz.prog 77 #[.pointer (some ⟨b, 0, none⟩), .string s] w fun e w' => e = .returned (.bool false) ∧ Below w.heap.size w w' := by
  have HN : Hid (Calls Tryz.prog 46 #[.pointer (some ⟨b, 0, none⟩)] w fun e w' => e = .returned (.agg #[.int .i64 ts[n].k, .int .i64 ts[n].at', .string (bar ts[n].t), .int .u64 ts[n].n]) ∧ Below w.heap.size w w') := next_any w b g cap n ts h hn
  have HT := txt_eq ts[n].t s
  rw [hs] at HT
  have h2 := fld2
  clear h hs
  generalize ts[n] = x at *
  generalize bar x.t = bx at *
  go_enter Tryz.func77, Tryz.ntmps77
  go_wp2_with (go_at_call 46; refine HN.out.mono ?_; rintro e w1 ⟨rfl, b1⟩)
  go_ret
  exact ⟨rfl, b1⟩

set_option maxHeartbeats 2000000 in
theorem passIf_ok (w : World) (b g cap n : Nat) (ts : List Tok) (h : Rd w b g cap ts n) (hn : n < ts.length) (hn1 : n + 1 < ts.length) (s : ByteArray) (hs : (ts[n].t == lst s) = true) :
    Calls Tryz.prog 77 #[.pointer (some ⟨b, 0, none⟩), .string s] w fun e w' => e = .returned (.bool true) ∧ Bt b w w' ∧ Rd w' b g cap ts (n + 1) := by
  have HR : Hid (Rd w b g cap ts n) := h
  have HN : Hid (Calls Tryz.prog 46 #[.pointer (some ⟨b, 0, none⟩)] w fun e w' => e = .returned (.agg #[.int .i64 ts[n].k, .int .i64 ts[n].at', .string (bar ts[n].t), .int .u64 ts[n].n]) ∧ Below w.heap.size w w') := next_any w b g cap n ts h hn
  have HP : Hid (∀ W, Rd W b g cap ts n → Calls Tryz.prog 79 #[.pointer (some ⟨b, 0, none⟩)] W fun e w' => e = .returned (tokV ts[n]) ∧ Bt b W w' ∧ Rd w' b g cap ts (n + 1)) := fun W hW => pass_any W b g cap n ts hW hn hn1
  have HT := txt_eq ts[n].t s
  rw [hs] at HT
  have h2 := fld2
  clear h hs
  generalize ts[n] = x at *
  generalize bar x.t = bx at *
  go_enter Tryz.func77, Tryz.ntmps77
  go_wp2_with (first | (go_at_call 46; refine HN.out.mono ?_; rintro e w1 ⟨rfl, b1⟩) | (go_at_call 79; refine (HP.out _ (HR.out.over b1)).mono ?_; rintro e w2 ⟨rfl, b2, P2⟩))
  go_ret
  exact ⟨rfl, (Bt.of b1).trans b2, P2⟩

/-- what is told of a token that alone can stand there. -/
theorem must_no (w : World) (b g cap n : Nat) (ts : List Tok) (h : Rd w b g cap ts n) (hn : n < ts.length) (s : ByteArray) (hs : (ts[n].t == lst s) = false) :
    Calls Tryz.prog 44 #[.pointer (some ⟨b, 0, none⟩), .string s] w fun e w' => e = flt 7 ts[n].at' ∧ Below w.heap.size w w' := by
  have HR : Hid (Rd w b g cap ts n) := h
  have HI : Hid (Calls Tryz.prog 77 #[.pointer (some ⟨b, 0, none⟩), .string s] w fun e w' => e = .returned (.bool false) ∧ Below w.heap.size w w') := passIf_no w b g cap n ts h hn s hs
  have HF : Hid (∀ W, Rd W b g cap ts n → Calls Tryz.prog 76 #[.pointer (some ⟨b, 0, none⟩), .bool false, .int .i64 7] W fun e w' => e = flt 7 ts[n].at' ∧ Below W.heap.size W w') := fun W hW => needs_no W b g cap n ts hW hn 7
  clear h hs
  generalize ts[n].at' = xa at *
  unfold flt
  go_enter Tryz.func44, Tryz.ntmps44
  go_wp2_with (first | (go_at_call 77; refine HI.out.mono ?_; rintro e w1 ⟨rfl, b1⟩) | (go_at_call 76; refine (HF.out _ (HR.out.over b1)).mono ?_; unfold flt; rintro e w2 ⟨rfl, b2⟩))
  exact ⟨rfl, rfl, b1.trans (b2.mono b1.size)⟩

theorem must_ok (w : World) (b g cap n : Nat) (ts : List Tok) (h : Rd w b g cap ts n) (hn : n < ts.length) (hn1 : n + 1 < ts.length) (s : ByteArray) (hs : (ts[n].t == lst s) = true) :
    Calls Tryz.prog 44 #[.pointer (some ⟨b, 0, none⟩), .string s] w fun e w' => e = .returned (.tuple #[]) ∧ Bt b w w' ∧ Rd w' b g cap ts (n + 1) := by
  have HI : Hid (Calls Tryz.prog 77 #[.pointer (some ⟨b, 0, none⟩), .string s] w fun e w' => e = .returned (.bool true) ∧ Bt b w w' ∧ Rd w' b g cap ts (n + 1)) := passIf_ok w b g cap n ts h hn hn1 s hs
  clear h hs
  go_enter Tryz.func44, Tryz.ntmps44
  go_wp2_with (first | (go_at_call 77; refine HI.out.mono ?_; rintro e w1 ⟨rfl, b1, P1⟩) | (go_at_call 76; refine (needs_ok _ b 7).mono ?_; rintro e w2 ⟨rfl, hw2⟩; subst w2))
  go_end0
  exact ⟨rfl, b1, P1⟩

end Go.Proofs.YtcckipimfgmmdaaGreatDoor.P
