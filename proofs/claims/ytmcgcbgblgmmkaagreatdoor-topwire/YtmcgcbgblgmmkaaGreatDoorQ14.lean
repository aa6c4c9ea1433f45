/-
  TwMem TMath.
-/
import Derived.Test.YtmcgcbgblgmmkaaGreatDoorQ2
import Derived.Test.YtmcgcbgblgmmkaaGreatDoorQ9
import Derived.Test.YtmcgcbgblgmmkaaGreatDoorQ10
import Derived.Test.YtmcgcbgblgmmkaaGreatDoorQ11
set_option maxRecDepth 100000
namespace Go.Proofs.YtmcgcbgblgmmkaaGreatDoor
open Go.RowKit
open G (Mg)
theorem bs_gf {w : World} {a : Option Addr} {n : Nat} {l : List Int} (h : G.K.Bs w a n l) : F.D.Bs w a n l := h
theorem bs_fl {w : World} {a : Option Addr} {n : Nat} {l : List Int} (h : F.D.Bs w a n l) : L.D.Bs w a n l := h
theorem bs_lf {w : World} {a : Option Addr} {n : Nat} {l : List Int} (h : L.D.Bs w a n l) : F.D.Bs w a n l := h
theorem bs_fg {w : World} {a : Option Addr} {n : Nat} {l : List Int} (h : F.D.Bs w a n l) : G.K.Bs w a n l := h
def cellsM (l : List Mg) : List Value := l.flatMap Mg.cells
theorem cellsM_app (l k : List Mg) : cellsM (l ++ k) = cellsM l ++ cellsM k := by simp [cellsM]
theorem cellsM_len {l : List Mg} (h : ∀ m ∈ l, m.ok) : (cellsM l).length = l.length * 15 := by
 induction l with
 | nil => rfl
 | cons m l ih =>
  show (m.cells ++ cellsM l).length = _
  rw [List.length_append, m.cells_len (h m List.mem_cons_self).2.2.1, ih fun x hx => h x (List.mem_cons_of_mem _ hx), List.length_cons]
  omega
theorem cellsM_get {l : List Mg} (h : ∀ m ∈ l, m.ok) : ∀ {i : Nat} {m : Mg} {j : Nat} {v : Value}, l[i]? = some m -> m.cells[j]? = some v -> (cellsM l)[i * 15 + j]? = some v := by
 induction l with
 | nil => intro i m j v hi; cases hi
 | cons x l ih =>
  intro i m j v hi hj
  have hx := x.cells_len (h x List.mem_cons_self).2.2.1
  show (x.cells ++ cellsM l)[i * 15 + j]? = _
  cases i with
  | zero =>
   cases hi
   have : j < x.cells.length := (List.getElem?_eq_some_iff.1 hj).1
   rw [Nat.zero_mul, Nat.zero_add, List.getElem?_append_left this]
   exact hj
  | succ i =>
   rw [List.getElem?_append_right (by omega), hx, show (i + 1) * 15 + j - 15 = i * 15 + j by omega]
   exact ih (fun y hy => h y (List.mem_cons_of_mem _ hy)) hi hj
theorem cellsM_one (l : List Mg) : ∀ u ∈ cellsM l, u.oneCell' = true := by
 intro u hu
 obtain ⟨m, _, hm⟩ := List.mem_flatMap.1 hu
 exact Array.all_eq_true_iff_forall_mem.1 m.cells_one u (by simpa using hm)
theorem rowM_at {w : World} {B n c i : Nat} {p : Option Addr} {l : List Mg} (h : w.ownsRow B 36 15 (.slice p n c) n (cellsM l)) (ho : ∀ m ∈ l, m.ok) (hi : i < l.length) : ∃ g, p = some ⟨g, 0, none⟩ /\ B <= g /\ w.rangeAt g (i * 15) l[i].cells := by
 rcases id h.2 with ⟨e, h0⟩ | ⟨g, cap, cur, e, hg, _⟩
 ·have := h.1
  rw [cellsM_len ho] at this
  cases e
  omega
 ·cases e
  refine ⟨g, rfl, hg, fun j v hv => ?_⟩
  have := h.cells (g := g) rfl (i * 15 + j) v (cellsM_get ho (List.getElem?_eq_getElem hi) hv)
  rw [Addr.add_lit, Nat.zero_add] at this
  exact this
theorem rowM_slice {w : World} {B n : Nat} {v : Value} {xs : List Value} (h : w.ownsRow B 36 15 v n xs) : ∃ p c, v = .slice p n c := by
 rcases h.2 with ⟨rfl, rfl⟩ | ⟨g, cap, cur, rfl, _⟩
 ·exact ⟨none, 0, rfl⟩
 ·exact ⟨_, cap, rfl⟩
def MsR (w : World) (v : Value) (ls : List Mg) : Prop :=
 ∃ p c, v = .slice p ls.length c /\ ls.length <= maxLen /\ (∀ m ∈ ls, m.ok) /\ (0 < ls.length -> ∃ b o, p = some ⟨b, o, none⟩ /\ ∀ (i : Nat) (m : Mg), ls[i]? = some m -> w.rangeAt b (o + i * 15) m.cells)
theorem range_below {w w' : World} {g o : Nat} {cs : List Value} (h : w.rangeAt g o cs) (hb : Below w.heap.size w w') : w'.rangeAt g o cs := fun j v hv => by
 have := h j v hv
 rw [hb.cell (p := ⟨g, o + j, none⟩) (World.block_lt_of_cell? w _ this)]
 exact this
theorem MsR.below {w w' : World} {v : Value} {ls : List Mg} (h : MsR w v ls) (hb : Below w.heap.size w w') : MsR w' v ls := by
 obtain ⟨p, c, e, h1, h2, h3⟩ := h
 refine ⟨p, c, e, h1, h2, fun h0 => ?_⟩
 obtain ⟨b, o, e2, hr⟩ := h3 h0
 exact ⟨b, o, e2, fun i m hi => range_below (hr i m hi) hb⟩
theorem MsR.at {w : World} {p : Option Addr} {n c i : Nat} {ls : List Mg} (h : MsR w (.slice p n c) ls) (hi : i < ls.length) : ∃ b o, p = some ⟨b, o, none⟩ /\ w.rangeAt b (o + i * 15) ls[i].cells /\ ls[i].ok := by
 obtain ⟨p', c', e, h1, h2, h3⟩ := h
 cases e
 obtain ⟨b, o, e2, hr⟩ := h3 (by omega)
 exact ⟨b, o, e2, hr i _ (List.getElem?_eq_getElem hi), h2 _ (List.getElem_mem hi)⟩
section
open Go.ChangeShapes Go.WideShapes Go.ChangeAt Go.Deep
theorem cellsMsg : Tryz.prog.cellsOf 36 = 15 := by kernel_rfl
theorem open_rowM {H : Type} {enc : TypeId × Value -> H} {w : World} {base : Nat} {spare : Nat -> Bool} {held : Bool} {fuel : Nat} {x : DataW H × List MemPlace} {a : Option Addr} {len cap : Nat} (h : DataW.trod enc Tryz.prog w base spare held fuel 22 [.slice a len cap] = some x) :
  ∃ l, MsR w (.slice a len cap) l := by
 rcases open_slice Tryz.underlying22 h with ⟨h0, _⟩ | ⟨a', len', cap', m, n, D, Pl, hcs, hb, hl, hm, hmm, _, hx⟩
 ·simp at h0
  obtain ⟨rfl, rfl, rfl⟩ := h0
  exact ⟨[], none, 0, rfl, Nat.zero_le _, by simp, fun h => absurd h (by simp)⟩
 ·simp at hcs
  obtain ⟨rfl, rfl, rfl⟩ := hcs
  have hlm : len <= m := by rw [hmm]; split <;> omega
  haveI : Inhabited Mg := ⟨G.Mg.zero⟩
  obtain ⟨f, hf⟩ := choose_lt (α := Mg) (n := len) (p := fun i y => y.ok /\ w.cells? base (a'.add (i * 15)) 15 = some y.cells) (fun i hi => by
   obtain ⟨cs', h1, h2⟩ := hx i (by omega)
   rw [cellsMsg] at h1
   obtain ⟨_, hlen, _⟩ := World.cells?_some h1
   obtain ⟨y, hy, rfl⟩ := G.open_cells_mg hlen h2
   exact ⟨y, hy, h1⟩)
  have hfl : ((List.range len).map f).length = len := by simp
  refine ⟨(List.range len).map f, some a', cap, by rw [hfl], by rw [hfl]; omega, ?_, fun h0 => ?_⟩
  ·intro y hy
   obtain ⟨i, hi, rfl⟩ := List.mem_map.1 hy
   exact (hf i (by simpa using hi)).1
  ·rw [hfl] at h0
   obtain ⟨b, off, spot⟩ := a'
   have hl15 : (f 0).cells.length = 15 := (f 0).cells_len (hf 0 h0).1.2.2.1
   have c0 := (World.cells?_some (hf 0 h0).2).2.2 0 (by omega)
   have hspot : spot = none := by
    have e : (({ block := b, off := off, spot := spot } : Addr).add (0 * 15)).add 0 = ⟨b, off, spot⟩ := by cases spot <;> simp [Addr.add]
    rw [e, List.getElem?_eq_getElem (by omega)] at c0
    exact World.cell?_spot c0
   subst hspot
   refine ⟨b, off, rfl, fun i y hi => ?_⟩
   have hil : i < len := by
    have := (List.getElem?_eq_some_iff.1 hi).1
    simpa using this
   simp [hil] at hi
   subst hi
   obtain ⟨_, hl2, hc⟩ := World.cells?_some (hf i hil).2
   intro j v hv
   have hj : j < 15 := by
    have := (List.getElem?_eq_some_iff.1 hv).1
    rw [(f i).cells_len (hf i hil).1.2.2.1] at this
    exact this
   have k0 := hc j hj
   rw [Addr.add_lit, Addr.add_lit] at k0
   rw [k0]
   exact hv
theorem open_msgs {H : Type} {enc : TypeId × Value -> H} {w : World} {base b0 : Nat} {spare : Nat -> Bool} {held : Bool} {r : Reach} {v : Value} {d : DataW H} {p : List MemPlace}
  (hv : Value.okWide Tryz.prog w r b0 22 v) (h : DataW.Trod enc Tryz.prog w base spare held 22 v d p) : ∃ y : Value × List Mg, v = y.1 /\ MsR w y.1 y.2 := by
 obtain ⟨a, n, c, rfl⟩ := okWide_slice Tryz.underlying22 hv
 obtain ⟨fuel, hf⟩ := h
 obtain ⟨l, hl⟩ := open_rowM hf
 exact ⟨(_, l), rfl, hl⟩
end
/-! a message appended to a row of the law's own -/
theorem infoMsg : ∃ z b, (Tryz.prog.info? 36).map (fun i => (i.zero, i.size, i.bytes)) = some (some z, 15, b) /\ z.cells.size = 15 /\ b <= 1000 := ⟨.agg G.zero15.toArray, 120, by kernel_rfl, by kernel_rfl, by decide⟩
theorem run_one15 (r0 r1 r2 r3 r4 r5 r6 r7 r8 r9 r10 r11 r12 r13 r14 : Value) (w : World) :
  (Instr.buildSlice 22 1 #[(0, .agg #[r0, r1, r2, r3, r4, r5, r6, r7, r8, r9, r10, r11, r12, r13, r14])]).run Tryz.prog w = .ok (.slice (some ⟨w.heap.size, 0, none⟩) 1 1) (w.alloc (Obj.cells #[r0, r1, r2, r3, r4, r5, r6, r7, r8, r9, r10, r11, r12, r13, r14] 36)) := by kernel_rfl
theorem run_one {R : Array Value} (h : R.size = 15) (w : World) : (Instr.buildSlice 22 1 #[(0, .agg R)]).run Tryz.prog w = .ok (.slice (some ⟨w.heap.size, 0, none⟩) 1 1) (w.alloc (Obj.cells R 36)) := by
 obtain ⟨l⟩ := R
 match l, h with
 | [r0, r1, r2, r3, r4, r5, r6, r7, r8, r9, r10, r11, r12, r13, r14], _ => exact run_one15 r0 r1 r2 r3 r4 r5 r6 r7 r8 r9 r10 r11 r12 r13 r14 w
theorem list_one {w : World} {ops : Array Oper} {rest : List Oper} {o : Oper} {a : Act} {Q : Exit -> Act -> World -> Prop} (hgd : o.guard = none) (x : Operand) (ho : o.op = .buildSlice 22 1 #[(0, x)]) (R : Array Value) (hx : a.eval x = .agg R) (hR : R.size = 15)
  (hk : wpList Tryz.prog ops Q rest (a.put o.dst (.slice (some ⟨w.heap.size, 0, none⟩) 1 1)) (w.alloc (Obj.cells R 36))) : wpList Tryz.prog ops Q (o :: rest) a w := by
 refine wpList_plain hgd fun _ hK => ?_
 unfold Oper.wp execOp
 simp only [ho, List.map_toArray, List.map_cons, List.map_nil, hx, Sem.run_bind, Sem.run_pure, Result.andThen_ok, run_one hR]
 exact hK _ _ hk
structure ApM (B : Nat) (w w' : World) (v v' : Value) (l : List Mg) : Prop where
 own : w'.ownsRow B 36 15 v' l.length (cellsM l)
 grow : w.grownBy w' v.ownBlock
 at' : v'.ownBlock = v.ownBlock \/ v'.ownBlock = some w.heap.size
theorem run_appM {B : Nat} {w : World} {v : Value} {n : Nat} {l : List Mg} {m : Mg} (h : w.ownsRow B 36 15 v n (cellsM l)) (hln : l.length = n) (g : Nat) (hc : w.rangeAt g 0 m.cells) (ho : m.ok) (hn : n <= 1000) (hB : B <= w.heap.size) (ty : TypeId) :
  ∃ v' w', (Builtin.append_ #[22, 22] ty #[v, .slice (some ⟨g, 0, none⟩) 1 1]).run Tryz.prog w = .ok v' w' /\ ApM B w w' v v' (l ++ [m]) := by
 obtain ⟨z, b, hi, hz, hb⟩ := infoMsg
 obtain ⟨i0, hi0, hz0, hz1, hz2⟩ := M.info_parts hi
 have hm : cellsM [m] = m.cells := by simp [cellsM]
 obtain ⟨v', w', h0, h1, h2, _, h4⟩ := run_append_own_at (P := Tryz.prog) w B 22 ty 36 i0 z 15 b Tryz.underlying22 hi0 hz0 hz1 hz2 hz (by decide) v n (cellsM l) h ⟨g, 0, none⟩ 1 1 m.cells (by rw [m.cells_len ho.2.2.1]) (fun j u hu => by rw [Addr.add_lit, Nat.zero_add]; have := hc j u hu; rw [Nat.zero_add] at this; exact this) (by rw [<- hm]; exact cellsM_one [m]) (by unfold maxLen; omega) (Nat.le_trans (Nat.mul_le_mul (show n + 1 <= 1001 by omega) hb) (by decide)) hB
 exact ⟨v', w', h0, by rw [cellsM_app, hm, List.length_append, List.length_singleton, hln]; exact h1, h2, h4⟩
theorem list_appM {B : Nat} {w : World} {ops : Array Oper} {rest : List Oper} {o : Oper} {a : Act} {Q : Exit -> Act -> World -> Prop} (hgd : o.guard = none) (s x : Operand)
  (ho : o.op = .call { callee := .builtin .append, args := #[s, x], argTypes := #[22, 22] }) {v : Value} {n : Nat} {l : List Mg} {m : Mg} {g : Nat} (hv : a.eval s = v) (hx : a.eval x = .slice (some ⟨g, 0, none⟩) 1 1)
  (h : w.ownsRow B 36 15 v n (cellsM l)) (hln : l.length = n) (hc : w.rangeAt g 0 m.cells) (hm : m.ok) (hn : n <= 1000) (hB : B <= w.heap.size)
  (hk : ∀ v' w', ApM B w w' v v' (l ++ [m]) -> wpList Tryz.prog ops Q rest (a.put o.dst v') w') : wpList Tryz.prog ops Q (o :: rest) a w := by
 refine wpList_plain hgd fun _ hK => ?_
 obtain ⟨v', w', hr, h2⟩ := run_appM h hln g hc hm hn hB o.type
 unfold Oper.wp execOp
 simp only [ho, resolve, invoke, builtin, Sem.run_bind, Sem.run_pure, Result.andThen_ok, List.map_toArray, List.map_cons, List.map_nil, hv, hx, hr]
 exact hK _ _ (hk v' w' h2)
theorem exec_load_mid {o : Oper} {f : Operand -> Value} {x : Operand} {g i : Nat} {R : List Value} {w : World} (ho : o.op = .load 36 x) (hx : f x = .pointer (some ⟨g, i, none⟩)) (hB : w.rangeAt g i R) (hz : (Tryz.prog.info? 36).map (·.size) = some R.toArray.size) :
  (execOp f o).run Tryz.prog w = .ok (.value (.agg R.toArray)) w := by
 unfold execOp
 simp only [ho, hx, Instr.loadAt, Instr.sureAddr, Sem.run_bind, Sem.run_pure, Result.andThen_ok, run_loadVar_mid w g i 36 R _ hB Tryz.underlying36 rfl hz]
/-! frames on their way -/
def fr (m : Mg) : List Int := F.frm F.sm (G.encM m)
def Ok (m : Mg) : Prop := G.MgR m /\ m.ok
theorem fr_len {m : Mg} (h : Ok m) : (fr m).length = (G.encM m).length + 8 /\ 1 <= (G.encM m).length /\ (G.encM m).length <= 512 := ⟨F.frm_len _ _, G.enc_pos m, G.enc_most h.1 h.2⟩
theorem fr_nxt {m : Mg} (h : Ok m) (r : List Int) : F.nxt F.sm (fr m ++ r) = (0, some (G.encM m), r) := F.frm_nxt r (fr_len h).2.1 (fr_len h).2.2
def lkU (fs : List (List Int)) : L.Lk := ⟨fs, []⟩
theorem lk_may {fs : List (List Int)} {f : List Int} (h : fs.length < 64) (h1 : 0 < f.length) (h2 : f.length <= 1024) : L.maySend ((lkU fs).sel true) f = true := decide_eq_true ⟨h, h1, h2⟩
theorem lk_send {fs : List (List Int)} {f : List Int} (h : fs.length < 64) (h1 : 0 < f.length) (h2 : f.length <= 1024) : (lkU fs).send true f = lkU (fs ++ [f]) := by
 unfold L.Lk.send
 rw [lk_may h h1 h2, if_pos rfl]
 rfl
theorem lk_twice {fs : List (List Int)} {f : List Int} (h : fs.length < 64) (h0 : fs[0]? = some f) : (lkU fs).mayTwice 0 = true /\ (lkU fs).twice 0 = lkU (fs ++ [f]) := by
 match fs, h0 with
 | x :: r, h0 =>
  cases h0
  have hw : (lkU (f :: r)).way 0 = true := by
   unfold L.Lk.way lkU
   exact decide_eq_true (by rw [List.length_cons]; omega)
  have ha : (lkU (f :: r)).at 0 = 0 := by
   unfold L.Lk.at lkU
   rw [if_pos (by rw [List.length_cons]; omega)]
  have h1 : (lkU (f :: r)).mayTwice 0 = true := by
   unfold L.Lk.mayTwice L.Lk.has
   rw [hw, ha]
   unfold L.hasN
   show (decide (0 <= (0 : Int) /\ (0 : Int) < ((f :: r).length : Int)) && decide ((f :: r).length < 64)) = true
   rw [decide_eq_true h, decide_eq_true (by rw [List.length_cons]; omega)]
   rfl
  refine ⟨h1, ?_⟩
  unfold L.Lk.twice L.Lk.frame
  rw [h1, if_pos rfl, hw, ha]
  rfl
theorem lk_take (f : List Int) (r : List (List Int)) : L.hasN ((lkU (f :: r)).sel true) 0 = true /\ (lkU (f :: r)).came true 0 = f /\ (lkU (f :: r)).take true 0 = lkU r := by
 have h1 : L.hasN ((lkU (f :: r)).sel true) 0 = true := by
  unfold L.hasN
  exact decide_eq_true ⟨Int.le_refl _, by show (0 : Int) < ((f :: r).length : Int); rw [List.length_cons]; omega⟩
 refine ⟨h1, ?_, ?_⟩
 ·unfold L.Lk.came
  rw [h1, if_pos rfl]
  rfl
 ·unfold L.Lk.take
  rw [h1, if_pos rfl]
  rfl
/-! what stays -/
theorem lkv_kp {X : Nat -> Prop} {w w' : World} {b : Nat} {s : L.Lk} (h : L.LkV w b s) (hk : F.Kp X w w') (hX : ¬ X b) : L.LkV w' b s := by
 refine ⟨?_, h.ok⟩
 have hb := h.blk
 unfold L.D.Blk at hb ⊢
 rw [hk.block b (lt_of_block hb) hX]
 exact hb
theorem row_kp {X : Nat -> Prop} {w w' : World} {B n : Nat} {v : Value} {xs : List Value} (h : w.ownsRow B 36 15 v n xs) (hk : F.Kp X w w') (hX : ∀ k, v.ownBlock = some k -> ¬ X k) : w'.ownsRow B 36 15 v n xs := by
 refine ⟨h.1, ?_⟩
 rcases h.2 with hn | ⟨g, cap, cur, hv, hg, hh, r⟩
 ·exact .inl hn
 ·exact .inr ⟨g, cap, cur, hv, hg, by rw [hk.block g (lt_of_block hh) (hX g (by rw [hv]; rfl))]; exact hh, r⟩
theorem kp_kb {b : Nat} {w w' : World} (h : L.Kb b w w') : F.Kp (· = b) w w' := ⟨h.os, h.tape, h.output, h.size, fun i hi hn => h.block i hi hn⟩
theorem row_not {w : World} {B n k : Nat} {v : Value} {xs cs : List Value} {t : TypeId} (h : w.ownsRow B 36 15 v n xs) (hb : w.heap[k]? = some (.cells cs.toArray t (0, 0))) (ht : t ≠ 36) : v.ownBlock ≠ some k := by
 intro e
 rcases h.2 with ⟨rfl, _⟩ | ⟨g, cap, cur, rfl, _, hh, _⟩
 ·cases e
 ·cases e
  rw [hb] at hh
  cases hh
  exact ht rfl
structure S1 (w0 wr : World) (b : Nat) (v5 : Value) (fs : List (List Int)) (ms : List Mg) : Prop where
 lk : L.LkV wr b (lkU fs)
 ro : wr.ownsRow w0.heap.size 36 15 v5 ms.length (cellsM ms)
 bel : Below w0.heap.size w0 wr
 lo : w0.heap.size <= b
 ok : ∀ m ∈ ms, Ok m
section
variable {w0 wr w' : World} {b : Nat} {v5 v' : Value} {fs : List (List Int)} {ms : List Mg}
theorem S1.ne (h : S1 w0 wr b v5 fs ms) : v5.ownBlock ≠ some b := row_not h.ro h.lk.blk (by decide)
theorem S1.oks (h : S1 w0 wr b v5 fs ms) : ∀ m ∈ ms, m.ok := fun m hm => (h.ok m hm).2
theorem S1.kp {X : Nat -> Prop} (h : S1 w0 wr b v5 fs ms) (hk : F.Kp X wr w') (hb : ¬ X b) (hv : ∀ k, v5.ownBlock = some k -> ¬ X k) (hl : ∀ k, k < w0.heap.size -> ¬ X k) : S1 w0 w' b v5 fs ms :=
 ⟨lkv_kp h.lk hk hb, row_kp h.ro hk hv, h.bel.trans (hk.below h.bel.size hl), h.lo, h.ok⟩
theorem S1.over (h : S1 w0 wr b v5 fs ms) (hb : Below wr.heap.size wr w') : S1 w0 w' b v5 fs ms := h.kp (X := fun _ => False) (F.kp_below hb) id (fun _ _ => id) (fun _ _ => id)
theorem S1.link {fs' : List (List Int)} (h : S1 w0 wr b v5 fs ms) (hl : L.LkV w' b (lkU fs')) (hk : L.Kb b wr w') : S1 w0 w' b v5 fs' ms :=
 ⟨hl, row_kp h.ro (kp_kb hk) (fun k e hkb => h.ne (by rw [e, hkb])), h.bel.trans (hk.below h.bel.size h.lo), h.lo, h.ok⟩
theorem S1.app {m : Mg} (h : S1 w0 wr b v5 fs ms) (ha : ApM w0.heap.size wr w' v5 v' (ms ++ [m])) (hm : Ok m) : S1 w0 w' b v' fs (ms ++ [m]) := by
 have hk : F.Kp (fun k => v5.ownBlock = some k) wr w' := F.kp_grown ha.grow fun _ e => e
 refine ⟨lkv_kp h.lk hk h.ne, ha.own, h.bel.trans (hk.below h.bel.size fun k hk e => ?_), h.lo, fun x hx => ?_⟩
 ·have := (h.ro.lt k e).1
  omega
 ·rcases List.mem_append.1 hx with hx | hx
  ·exact h.ok x hx
  ·rw [List.mem_singleton] at hx
   subst hx
   exact hm
structure S2 (w0 wr : World) (b rb : Nat) (v5 rv : Value) (fs : List (List Int)) (ms : List Mg) (l : List Int) : Prop where
 s : S1 w0 wr b v5 fs ms
 rd : F.Rdr wr rb rv l 0
 lor : w0.heap.size <= rb
 lov : ∀ k, rv.ownBlock = some k -> w0.heap.size <= k /\ k ≠ b /\ v5.ownBlock ≠ some k
variable {rb : Nat} {rv rv' : Value} {l l' : List Int}
theorem S2.bne (h : S2 w0 wr b rb v5 rv fs ms l) : b ≠ rb /\ v5.ownBlock ≠ some rb := by
 have hr := h.rd.blk
 unfold F.D.Blk at hr
 refine ⟨fun e => ?_, row_not h.s.ro hr (by decide)⟩
 have hl := h.s.lk.blk
 unfold L.D.Blk at hl
 rw [e, hr] at hl
 have e2 := Option.some.inj hl
 injection e2 with _ h2 _
 exact absurd h2 (by decide)
theorem S2.over (h : S2 w0 wr b rb v5 rv fs ms l) (hb : Below wr.heap.size wr w') : S2 w0 w' b rb v5 rv fs ms l := ⟨h.s.over hb, h.rd.over hb, h.lor, h.lov⟩
theorem S2.link {fs' : List (List Int)} (h : S2 w0 wr b rb v5 rv fs ms l) (hl : L.LkV w' b (lkU fs')) (hk : L.Kb b wr w') : S2 w0 w' b rb v5 rv fs' ms l :=
 ⟨h.s.link hl hk, h.rd.kp (kp_kb hk) (fun e => h.bne.1 e.symm) (fun k e hkb => (h.lov k e).2.1 hkb), h.lor, h.lov⟩
theorem S2.feed (h : S2 w0 wr b rb v5 rv fs ms l) (hr : F.Rdr w' rb rv' l' 0) (ho : rv'.ownBlock = rv.ownBlock \/ rv'.ownBlock = some wr.heap.size) (hk : F.Kp (fun i => i = rb \/ rv.ownBlock = some i) wr w') : S2 w0 w' b rb v5 rv' fs ms l' := by
 refine ⟨h.s.kp hk (fun e => ?_) (fun k e hx => ?_) (fun k hk hx => ?_), hr, h.lor, fun k e => ?_⟩
 ·rcases e with e | e
  ·exact h.bne.1 e
  ·exact (h.lov b e).2.1 rfl
 ·rcases hx with hx | hx
  ·exact h.bne.2 (by rw [e, hx])
  ·exact (h.lov k hx).2.2 e
 ·rcases hx with hx | hx
  ·have := h.lor; omega
  ·have := (h.lov k hx).1; omega
 ·rcases ho with ho | ho
  ·exact h.lov k (by rw [<- ho]; exact e)
  ·rw [ho] at e
   cases e
   refine ⟨h.s.bel.size, fun e => ?_, fun e => ?_⟩
   ·have := lt_of_block h.s.lk.blk
    omega
   ·have := (h.s.ro.lt _ e).2
    omega
theorem S2.next (h : S2 w0 wr b rb v5 rv fs ms l) (hr : F.Rdr w' rb rv' l' 0) (ho : rv'.ownBlock = rv.ownBlock) (hk : F.Kp (· = rb) wr w') : S2 w0 w' b rb v5 rv' fs ms l' :=
 h.feed hr (.inl ho) (hk.mono fun _ _ e => .inl e)
end
theorem next_fr {w : World} {rb : Nat} {rv : Value} {m : Mg} {r : List Int} (h : F.Rdr w rb rv (fr m ++ r) 0) (hm : Ok m) (hn : (fr m ++ r).length <= 100000) :
  Calls Tryz.prog 11 #[.pointer (some ⟨rb, 0, none⟩)] w fun e w' => ∃ u rv', e = .returned (.tuple #[u, .bool true]) /\ F.Wt w' u (G.encM m) /\ F.Rdr w' rb rv' r 0 /\ rv'.ownBlock = rv.ownBlock /\ F.Kp (· = rb) w w' := by
 refine (F.next_any rb 0 rv _ w h hn (by omega)).mono ?_
 intro e w' hx
 unfold F.NxT at hx
 rw [fr_nxt hm] at hx
 obtain ⟨⟨u, h1, h2, _⟩, rv', h3, h4, h5⟩ := hx
 exact ⟨u, rv', h1, h2, h3, h4, h5⟩
theorem next_end {w : World} {rb : Nat} {rv : Value} (h : F.Rdr w rb rv [] 0) :
  Calls Tryz.prog 11 #[.pointer (some ⟨rb, 0, none⟩)] w fun e w' => ∃ rv', e = .returned (.tuple #[.slice none 0 0, .bool false]) /\ F.Rdr w' rb rv' [] 0 /\ rv'.ownBlock = rv.ownBlock /\ F.Kp (· = rb) w w' := by
 refine (F.next_any rb 0 rv _ w h (by simp) (by simp)).mono ?_
 intro e w' hx
 unfold F.NxT at hx
 obtain ⟨h1, rv', h3, h4, h5⟩ := hx
 exact ⟨rv', h1, h3, h4, h5⟩
end Go.Proofs.YtmcgcbgblgmmkaaGreatDoor
namespace Go.Proofs.YtmcgcbgblgmmkaaGreatDoor.T
def mid (a b : Nat) : Nat := a + (b - a) / 2
theorem mid_lt {a b : Nat} (h : 2 <= b - a) : a < mid a b /\ mid a b < b := by unfold mid; omega
def partsF : Nat -> Nat -> Nat -> List (Nat × Nat)
 | 0, _, _ => []
 | k + 1, a, b => if b <= a then [] else if b - a < 2 then [(a, b)] else (a, b) :: (partsF k a (mid a b) ++ partsF k (mid a b) b)
theorem partsF_more (k : Nat) : ∀ j a b, b - a <= k -> b - a <= j -> partsF k a b = partsF j a b := by
 induction k with
 | zero =>
  intro j a b h _
  cases j with
  | zero => rfl
  | succ j =>
   show [] = if b <= a then [] else _
   rw [if_pos (by omega)]
 | succ k ih =>
  intro j a b h hj
  cases j with
  | zero =>
   show (if b <= a then [] else _) = []
   rw [if_pos (by omega)]
  | succ j =>
   show (if b <= a then [] else if b - a < 2 then [(a, b)] else (a, b) :: (partsF k a (mid a b) ++ partsF k (mid a b) b)) = if b <= a then [] else if b - a < 2 then [(a, b)] else (a, b) :: (partsF j a (mid a b) ++ partsF j (mid a b) b)
   by_cases h0 : b <= a
   ·rw [if_pos h0, if_pos h0]
   by_cases h1 : b - a < 2
   ·rw [if_neg h0, if_neg h0, if_pos h1, if_pos h1]
   ·have hm := mid_lt (a := a) (b := b) (by omega)
    rw [if_neg h0, if_neg h0, if_neg h1, if_neg h1, ih j a (mid a b) (by omega) (by omega), ih j (mid a b) b (by omega) (by omega)]
def parts (a b : Nat) : List (Nat × Nat) := partsF (b - a) a b
theorem parts_none {a b : Nat} (h : b <= a) : parts a b = [] := by
 unfold parts
 rw [show b - a = 0 from by omega]
 rfl
theorem parts_one {a b : Nat} (h : a < b) (h2 : b - a < 2) : parts a b = [(a, b)] := by
 unfold parts
 rw [show b - a = 0 + 1 from by omega]
 show (if b <= a then [] else if b - a < 2 then [(a, b)] else _) = _
 rw [if_neg (by omega), if_pos h2]
theorem parts_two {a b : Nat} (h : 2 <= b - a) : parts a b = (a, b) :: (parts a (mid a b) ++ parts (mid a b) b) := by
 have hm := mid_lt h
 have e : partsF (b - a) a b = partsF ((b - a - 1) + 1) a b := by rw [show b - a - 1 + 1 = b - a from by omega]
 show partsF (b - a) a b = _
 rw [e]
 show (if b <= a then [] else if b - a < 2 then [(a, b)] else (a, b) :: (partsF (b - a - 1) a (mid a b) ++ partsF (b - a - 1) (mid a b) b)) = _
 rw [if_neg (by omega), if_neg (by omega), partsF_more (b - a - 1) (mid a b - a) a (mid a b) (by omega) (by omega), partsF_more (b - a - 1) (b - mid a b) (mid a b) b (by omega) (by omega)]
 rfl
theorem parts_len' (k : Nat) : ∀ a b, b - a <= k -> a < b -> (parts a b).length = 2 * (b - a) - 1 := by
 induction k with
 | zero => intro a b h1 h2; omega
 | succ k ih =>
  intro a b h1 h2
  by_cases h : b - a < 2
  ·rw [parts_one h2 h, List.length_singleton]
   omega
  ·have hm := mid_lt (a := a) (b := b) (by omega)
   rw [parts_two (by omega), List.length_cons, List.length_append, ih a (mid a b) (by omega) hm.1, ih (mid a b) b (by omega) hm.2]
   omega
theorem parts_len {a b : Nat} (h : a < b) : (parts a b).length = 2 * (b - a) - 1 := parts_len' _ a b (Nat.le_refl _) h
theorem parts_le (a b : Nat) : (parts a b).length <= 2 * (b - a) := by
 by_cases h : a < b
 ·rw [parts_len h]; omega
 ·rw [parts_none (by omega)]; simp
def midOf (p : Nat × Nat) : Option Nat := if 2 <= p.2 - p.1 then some (mid p.1 p.2) else none
def midsOf (l : List (Nat × Nat)) : List Nat := l.filterMap midOf
theorem midsOf_snoc (l : List (Nat × Nat)) (p : Nat × Nat) : midsOf (l ++ [p]) = midsOf l ++ (if 2 <= p.2 - p.1 then [mid p.1 p.2] else []) := by
 unfold midsOf
 rw [List.filterMap_append]
 congr 1
 unfold midOf
 split <;> simp_all
theorem midsOf_le (l : List (Nat × Nat)) : (midsOf l).length <= l.length := List.length_filterMap_le _ _
def mids (a b : Nat) : List Nat := midsOf (parts a b)
theorem mids_two {a b : Nat} (h : 2 <= b - a) : mids a b = mid a b :: (mids a (mid a b) ++ mids (mid a b) b) := by
 unfold mids
 rw [parts_two h]
 unfold midsOf
 rw [List.filterMap_cons, List.filterMap_append]
 simp [midOf, h]
theorem mids_one {a b : Nat} (h : b - a < 2) : mids a b = [] := by
 unfold mids
 by_cases h0 : b <= a
 ·rw [parts_none h0]; rfl
 ·rw [parts_one (by omega) h]
  unfold midsOf
  rw [List.filterMap_cons]
  simp [midOf, show ¬ 2 <= b - a from by omega]
def rises (l : List Int) : Bool := decide (∀ i, i < l.length - 1 -> l.getD i 0 < l.getD (i + 1) 0)
def Ends (l : List Int) (n : Int) (p : Nat) : Prop := p < l.length /\ (l.getD p 0 <= n \/ p = 0) /\ (p + 1 = l.length \/ n < l.getD (p + 1) 0)
def bErr (l : List Int) : Int := if 4096 < l.length then 4 else if rises l = true then 0 else 1
def bMids (l : List Int) : List Nat := if 4096 < l.length then [] else if rises l = true then mids 0 l.length else []
theorem bErr_zero {l : List Int} (h : bErr l = 0) : l.length <= 4096 /\ rises l = true := by
 unfold bErr at h
 split at h
 ·omega
 ·split at h
  ·exact ⟨by omega, by assumption⟩
  ·omega
end Go.Proofs.YtmcgcbgblgmmkaaGreatDoor.T
