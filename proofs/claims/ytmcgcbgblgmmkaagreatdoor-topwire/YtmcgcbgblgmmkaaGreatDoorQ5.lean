/-
  GDOf GMsMath GMsCall GMsBase GMsOnly GMsOnlyC.
-/
import Derived.Test.YtmcgcbgblgmmkaaGreatDoorQ4
import Derived.Laws.ResultCell
import Derived.Test.YtmcgcbgblgmmkaaGreatDoorQ3
import Derived.Test.YtmcgcbgblgmmkaaGreatDoorQ1
set_option maxRecDepth 100000
set_option maxHeartbeats 2000000
namespace Go.Proofs.YtmcgcbgblgmmkaaGreatDoor.G.D
open Go.RowKit
theorem results_row2 {fn : Func} {p u : Tmp} (h : fn.results = #[.cell p 34, .tmp u]) (tmps : Array Value) (w : World) (g : Nat) (l : List Value) (y : Value)
  (hp : tmps.getD p undef = .pointer (some ⟨g, 0, none⟩)) (hg : Blk w g 34 l) (hl : (Tryz.prog.info? 34).map (·.size) = some l.toArray.size) (hy : tmps.getD u undef = y) :
  (results fn tmps).run Tryz.prog w = .ok (.tuple #[.agg l.toArray, y]) w := by
 rw [results_cell_tmp h, hp, hy]
 simp [asAddr, run_loadVar_row w g 34 34 l.toArray (0, 0) _ hg Tryz.underlying34 rfl hl]
theorem of_any (a : Option Addr) (len cap : Nat) (l : List Int) (w : World) (hb : Bs w a len l) :
  Calls Tryz.prog 94 #[.slice a len cap] w fun e w' => e = .returned (.tuple #[(decOf l).val, .int .i64 (errOf len)]) /\ Below w.heap.size w w' := by
 have E1 : Hid (∀ o, Below w.heap.size w (w.alloc o)) := fun o => (Below.refl _ _).alloc (Nat.le_refl _) _
 have hll := hb.1
 rcases Nat.lt_trichotomy len 64 with h | h | h
 ·have hd : decOf l = Da.zero := decOf_ne l (by omega)
  have he : errOf len = 2 := by unfold errOf; rw [if_pos h]
  rw [hd, he]
  clear hb hll hd he
  go_enter Tryz.func94, Tryz.ntmps94
  go_wp2
  refine bodyPost_ret (v := .tuple #[.agg zero9.toArray, .int .i64 2]) (by simp [results, Tryz.results94, go_sem, zero9]) rfl ⟨rfl, E1.out _⟩
 ·subst h
  have hd : decOf l = join (readW l 16) := decOf_eq l hll
  have he : errOf 64 = 0 := rfl
  rw [hd, he]
  have hb1 : Hid (Bs (w.alloc (Obj.cells zero9.toArray 34)) a 64 l) := hb.below (E1.out _)
  have hf : Hid (Blk (w.alloc (Obj.cells zero9.toArray 34)) w.heap.size 34 zero9) := blk_new w _ 34
  have HZ : Hid ((Tryz.prog.info? 34).map (·.size) = some (join (readW l 16)).cells.toArray.size) := by unfold Hid; rw [Tryz.size34]; rfl
  have HS : Hid (zero9.toArray.size = (join (readW l 16)).cells.toArray.size) := rfl
  have H1 : Hid ((join (readW l 16)).cells.toArray.all (·.oneCell') = true) := Da.cells_one _
  have HR : Hid (∀ W : World, Bs W a 64 l -> Calls Tryz.prog 136 #[.slice a 64 cap] W fun e w' => e = .returned (valW (readW l 16)) /\ Below W.heap.size W w') := fun W h => read_any a cap l W h
  have HJ : Hid (∀ W : World, Calls Tryz.prog 135 #[valW (readW l 16)] W fun e w' => e = .returned (.agg (join (readW l 16)).cells.toArray) /\ Below W.heap.size W w') := fun W => join_any (readW l 16) W (readW_len l 16) (readW_u l 16 hb.2.1)
  clear hb hll hd he
  unfold Da.val
  unfold valW zero9 at *
  generalize (join (readW l 16)).cells = R at *
  generalize (cellsW (readW l 16)).toArray = RW at *
  go_enter Tryz.func94, Tryz.ntmps94
  go_wp2_with (first | (go_at_call 136; refine (HR.out _ hb1.out).mono ?_; rintro e w2 ⟨rfl, hb2⟩; have hf2 := hf.out.over hb2; have e2 := (E1.out _).trans (hb2.mono (E1.out _).size)) | (go_at_call 135; refine (HJ.out _).mono ?_; rintro e w3 ⟨rfl, hb3⟩; have hf3 := hf2.over hb3; have e3 := e2.trans (hb3.mono e2.size)) | (refine wpList_store_row rfl 34 (.tmp 2) (.tmp 14) rfl w.heap.size R.toArray rfl rfl 34 _ hf3 HZ.out HS.out H1.out ?_))
  refine bodyPost_ret (v := .tuple #[.agg R.toArray, .int .i64 0]) ?_ rfl ⟨rfl, ?_⟩
  ·exact results_row2 Tryz.results94 _ _ w.heap.size R _ rfl (hf3.row R.toArray) HZ.out rfl
  ·exact below_setRow e3 (Nat.le_refl _) _
 ·have hd : decOf l = Da.zero := decOf_ne l (by omega)
  have he : errOf len = 3 := by unfold errOf; rw [if_neg (by omega), if_pos h]
  rw [hd, he]
  clear hb hll hd he
  go_enter Tryz.func94, Tryz.ntmps94
  go_wp2
  refine bodyPost_ret (v := .tuple #[.agg zero9.toArray, .int .i64 3]) (by simp [results, Tryz.results94, go_sem, zero9]) rfl ⟨rfl, E1.out _⟩
end Go.Proofs.YtmcgcbgblgmmkaaGreatDoor.G.D
namespace Go.Proofs.YtmcgcbgblgmmkaaGreatDoor.G
structure Mg where
 kind : Int
 epoch : Int
 id : Int
 task : Int
 val : Int
 data : D.Da
 path : List Int
def Mg.zero : Mg := ⟨0, 0, 0, 0, 0, D.Da.zero, []⟩
def Mg.ok (m : Mg) : Prop := D.U64 m.epoch /\ D.U64 m.id /\ m.data.ok /\ D.Byt m.path
def MgR (m : Mg) : Prop := 1 <= m.kind /\ m.kind <= 7 /\ (m.kind = 1 -> m.id = 0) /\ (m.kind ≠ 2 -> m.task = 0 /\ m.data = D.Da.zero /\ m.path = []) /\ (m.kind = 2 -> 1 <= m.task /\ m.task <= 4 /\ m.path.length <= 256) /\
 (¬ (m.kind = 4 \/ m.kind = 5 \/ m.kind = 7) -> m.val = 0) /\ ((m.kind = 4 \/ m.kind = 5 \/ m.kind = 7) -> 0 <= m.val /\ m.val <= 65535) /\ (m.kind = 7 -> m.val <= 1)
def idB (m : Mg) : List Int := if m.kind = 1 then [] else K.digs 8 m.id
def ntB (m : Mg) : List Int := if m.kind = 2 then m.task :: (m.data.enc ++ (K.digs 2 m.path.length ++ m.path)) else []
def vaB (m : Mg) : List Int := if m.kind = 4 \/ m.kind = 5 \/ m.kind = 7 then K.digs 2 m.val else []
def encM (m : Mg) : List Int := m.kind :: (K.digs 8 m.epoch ++ (idB m ++ (ntB m ++ vaB m)))
def need (k : Int) : Nat := if k = 1 then 9 else if k = 2 then 84 else if k = 4 \/ k = 5 \/ k = 7 then 19 else 17
def size (k : Int) (b : List Int) : Nat := if k = 2 then 84 + (K.numOf ((b.drop 82).take 2)).toNat else need k
def rd (k : Int) (b : List Int) : Mg where
 kind := k
 epoch := K.numOf ((b.drop 1).take 8)
 id := if k = 1 then 0 else K.numOf ((b.drop 9).take 8)
 task := if k = 2 then b.getD 17 0 else 0
 val := if k = 4 \/ k = 5 \/ k = 7 then K.numOf ((b.drop 17).take 2) else 0
 data := if k = 2 then D.decOf ((b.drop 18).take 64) else D.Da.zero
 path := if k = 2 then (b.drop 84).take (K.numOf ((b.drop 82).take 2)).toNat else []
def rdR (k : Int) (b : List Int) : Prop := (k = 2 -> 1 <= (rd k b).task /\ (rd k b).task <= 4 /\ (rd k b).path.length <= 256) /\ (k = 7 -> (rd k b).val <= 1)
def rdB (k : Int) (b : List Int) : Bool := decide ((k = 2 -> 1 <= (rd k b).task /\ (rd k b).task <= 4 /\ (rd k b).path.length <= 256) /\ (k = 7 -> (rd k b).val <= 1))
theorem rdB_iff {k : Int} {b : List Int} : rdB k b = true ↔ rdR k b := decide_eq_true_iff
def decM : List Int -> Mg × Int
 | [] => (Mg.zero, 2)
 | k :: r => if ¬ (1 <= k /\ k <= 7) then (Mg.zero, 3) else if (k :: r).length < need k \/ (k :: r).length < size k (k :: r) then (Mg.zero, 2) else if size k (k :: r) < (k :: r).length then (Mg.zero, 3) else if rdB k (k :: r) = true then (rd k (k :: r), 0) else (Mg.zero, 1)
theorem pow2 : K.pow256 2 = 65536 := by decide
theorem num_u8 {l : List Int} (h : D.Byt l) (hl : l.length <= 8) : D.U64 (K.numOf l) := by
 have h1 := K.numOf_bd l h
 have h2 := K.pow256_mono hl
 have h3 := K.pow256_8
 unfold D.U64
 omega
theorem num_2 {l : List Int} (h : D.Byt l) (hl : l.length <= 2) : 0 <= K.numOf l /\ K.numOf l <= 65535 := by
 have h1 := K.numOf_bd l h
 have h2 := K.pow256_mono hl
 have h3 : K.pow256 2 = 65536 := by decide
 omega
theorem byt_sub {b : List Int} (h : D.Byt b) (i n : Nat) : D.Byt ((b.drop i).take n) := fun z hz => h z (List.mem_of_mem_drop (List.mem_of_mem_take hz))
theorem rd_right {k : Int} {b : List Int} (hk : 1 <= k /\ k <= 7) (hb : D.Byt b) : rdR k b ↔ MgR (rd k b) := by
 have hv := num_2 (byt_sub hb 17 2) (by rw [List.length_take]; exact Nat.min_le_left _ _)
 constructor
 ·intro h
  refine ⟨hk.1, hk.2, fun e => ?_, fun e => ?_, h.1, fun e => ?_, fun e => ?_, h.2⟩
  ·exact if_pos e
  ·exact ⟨if_neg e, if_neg e, if_neg e⟩
  ·exact if_neg e
  ·have e2 : (rd k b).val = K.numOf ((b.drop 17).take 2) := if_pos e
   rw [e2]
   exact hv
 ·intro h
  exact ⟨h.2.2.2.2.1, h.2.2.2.2.2.2.2⟩
theorem mg_ext {m n : Mg} (h1 : m.kind = n.kind) (h2 : m.epoch = n.epoch) (h3 : m.id = n.id) (h4 : m.task = n.task) (h5 : m.val = n.val) (h6 : m.data = n.data) (h7 : m.path = n.path) : m = n := by
 cases m; cases n
 simp only at h1 h2 h3 h4 h5 h6 h7
 subst h1 h2 h3 h4 h5 h6 h7
 rfl
theorem take_app {l m : List Int} {n : Nat} (h : l.length = n) : (l ++ m).take n = l := by subst h; exact List.take_left
theorem drop_app {l m : List Int} {n : Nat} (h : l.length = n) : (l ++ m).drop n = m := by subst h; exact List.drop_left
theorem drop_more {b l : List Int} {i n : Nat} (h : b.drop i = l) : b.drop (i + n) = l.drop n := by rw [<- h, List.drop_drop]
section
variable {m : Mg} (x : List Int)
theorem en1 : (encM m ++ x).drop 1 = K.digs 8 m.epoch ++ (idB m ++ (ntB m ++ (vaB m ++ x))) := by
 show (K.digs 8 m.epoch ++ (idB m ++ (ntB m ++ vaB m))) ++ x = _
 simp only [List.append_assoc]
theorem en9 : (encM m ++ x).drop 9 = idB m ++ (ntB m ++ (vaB m ++ x)) := by
 rw [drop_more (i := 1) (n := 8) (en1 x), drop_app (K.digs_length 8 _)]
theorem en17 (h : m.kind ≠ 1) : (encM m ++ x).drop 17 = ntB m ++ (vaB m ++ x) := by
 rw [drop_more (i := 9) (n := 8) (en9 x)]
 unfold idB
 rw [if_neg h, drop_app (K.digs_length 8 _)]
theorem va_none (h : m.kind = 2) : vaB m = [] := if_neg (by omega)
theorem en17b (h : m.kind = 2) : (encM m ++ x).drop 17 = m.task :: (m.data.enc ++ (K.digs 2 m.path.length ++ (m.path ++ x))) := by
 rw [en17 x (by omega), va_none h]
 unfold ntB
 rw [if_pos h]
 simp only [List.cons_append, List.append_assoc, List.nil_append]
theorem en18 (h : m.kind = 2) : (encM m ++ x).drop 18 = m.data.enc ++ (K.digs 2 m.path.length ++ (m.path ++ x)) := by
 rw [drop_more (i := 17) (n := 1) (en17b x h)]
 rfl
theorem en82 (h : m.kind = 2) (hd : m.data.ok) : (encM m ++ x).drop 82 = K.digs 2 m.path.length ++ (m.path ++ x) := by
 rw [drop_more (i := 18) (n := 64) (en18 x h), drop_app (D.enc_len _ hd)]
theorem en84 (h : m.kind = 2) (hd : m.data.ok) : (encM m ++ x).drop 84 = m.path ++ x := by
 rw [drop_more (i := 82) (n := 2) (en82 x h hd), drop_app (K.digs_length 2 _)]
theorem en_len (h : m.kind = 2) (hd : m.data.ok) (hp : m.path.length <= 256) : K.numOf (((encM m ++ x).drop 82).take 2) = m.path.length := by
 rw [en82 x h hd, take_app (K.digs_length 2 _), K.numOf_digs 2 _ (by omega) (by rw [pow2]; omega)]
theorem rd_enc (hr : MgR m) (ho : m.ok) : rd m.kind (encM m ++ x) = m := by
 obtain ⟨r1, r2, r3, r4, r5, r6, r7, r8⟩ := hr
 obtain ⟨o1, o2, o3, o4⟩ := ho
 have p8 := K.pow256_8
 unfold D.U64 at o1 o2
 refine mg_ext rfl ?_ ?_ ?_ ?_ ?_ ?_
 ·show K.numOf (((encM m ++ x).drop 1).take 8) = _
  rw [en1, take_app (K.digs_length 8 _), K.numOf_digs 8 _ o1.1 (by omega)]
 ·show (if m.kind = 1 then 0 else K.numOf (((encM m ++ x).drop 9).take 8)) = _
  by_cases h : m.kind = 1
  ·rw [if_pos h, r3 h]
  ·rw [if_neg h, en9]
   unfold idB
   rw [if_neg h, take_app (K.digs_length 8 _), K.numOf_digs 8 _ o2.1 (by omega)]
 ·show (if m.kind = 2 then (encM m ++ x).getD 17 0 else 0) = _
  by_cases h : m.kind = 2
  ·have e := en17b x h
   have e2 : (encM m ++ x).getD 17 0 = ((encM m ++ x).drop 17).getD 0 0 := by rw [List.getD_eq_getElem?_getD, List.getD_eq_getElem?_getD, List.getElem?_drop]
   rw [if_pos h, e2, e]
   rfl
  ·rw [if_neg h, (r4 h).1]
 ·show (if m.kind = 4 \/ m.kind = 5 \/ m.kind = 7 then K.numOf (((encM m ++ x).drop 17).take 2) else 0) = _
  by_cases h : m.kind = 4 \/ m.kind = 5 \/ m.kind = 7
  ·have hv := r7 h
   rw [if_pos h, en17 x (by omega)]
   unfold ntB vaB
   rw [if_neg (by omega), if_pos h, List.nil_append, take_app (K.digs_length 2 _), K.numOf_digs 2 _ hv.1 (by rw [pow2]; omega)]
  ·rw [if_neg h, r6 h]
 ·show (if m.kind = 2 then D.decOf (((encM m ++ x).drop 18).take 64) else D.Da.zero) = _
  by_cases h : m.kind = 2
  ·rw [if_pos h, en18 x h, take_app (D.enc_len _ o3), D.dec_enc _ o3]
  ·rw [if_neg h, (r4 h).2.1]
 ·show (if m.kind = 2 then ((encM m ++ x).drop 84).take (K.numOf (((encM m ++ x).drop 82).take 2)).toNat else []) = _
  by_cases h : m.kind = 2
  ·rw [if_pos h, en_len x h o3 (r5 h).2.2, en84 x h o3]
   exact take_app (by omega)
  ·rw [if_neg h, (r4 h).2.2]
theorem enc_length (hr : MgR m) (ho : m.ok) : (encM m).length = if m.kind = 2 then 84 + m.path.length else need m.kind := by
 obtain ⟨r1, r2, _⟩ := hr
 have h8 := K.digs_length 8
 have h2 := K.digs_length 2
 have hd := D.enc_len m.data ho.2.2.1
 unfold encM idB ntB vaB need
 by_cases e1 : m.kind = 1
 ·rw [if_pos e1, if_neg (by omega), if_neg (by omega), if_neg (by omega), if_pos e1]
  simp [h8]
 ·by_cases e2 : m.kind = 2
  ·rw [if_neg e1, if_pos e2, if_neg (by omega), if_pos e2]
   simp only [List.length_cons, List.length_append, h8, h2, hd, List.length_nil]
   omega
  ·rw [if_neg e1, if_neg e2, if_neg e2, if_neg e1, if_neg e2]
   by_cases e4 : m.kind = 4 \/ m.kind = 5 \/ m.kind = 7
   ·rw [if_pos e4, if_pos e4]
    simp [h8, h2]
   ·rw [if_neg e4, if_neg e4]
    simp [h8]
theorem size_enc (hr : MgR m) (ho : m.ok) : size m.kind (encM m ++ x) = (encM m).length := by
 rw [enc_length hr ho]
 unfold size
 by_cases e2 : m.kind = 2
 ·rw [if_pos e2, if_pos e2, en_len x e2 ho.2.2.1 (hr.2.2.2.2.1 e2).2.2]
  omega
 ·rw [if_neg e2, if_neg e2]
theorem need_enc (hr : MgR m) (ho : m.ok) : need m.kind <= (encM m).length := by
 rw [enc_length hr ho]
 by_cases e2 : m.kind = 2
 ·rw [if_pos e2]
  unfold need
  rw [if_neg (by omega), if_pos e2]
  omega
 ·rw [if_neg e2]
  exact Nat.le_refl _
end
theorem enc_most {m : Mg} (hr : MgR m) (ho : m.ok) : (encM m).length <= 512 := by
 rw [enc_length hr ho]
 by_cases e2 : m.kind = 2
 ·rw [if_pos e2]
  have := (hr.2.2.2.2.1 e2).2.2
  omega
 ·rw [if_neg e2]
  unfold need
  rw [if_neg e2]
  split
  ·omega
  ·split <;> omega
theorem enc_pos (m : Mg) : 0 < (encM m).length := by simp [encM]
theorem enc_byt {m : Mg} (hr : MgR m) (ho : m.ok) : D.Byt (encM m) := by
 obtain ⟨r1, r2, r3, r4, r5, r6, r7, r8⟩ := hr
 intro z hz
 have hd : ∀ k n, ∀ z ∈ K.digs k n, 0 <= z /\ z <= 255 := K.digs_bd
 unfold encM idB ntB vaB at hz
 rcases List.mem_cons.1 hz with rfl | hz
 ·omega
 rcases List.mem_append.1 hz with hz | hz
 ·exact hd _ _ z hz
 rcases List.mem_append.1 hz with hz | hz
 ·split at hz
  ·cases hz
  ·exact hd _ _ z hz
 rcases List.mem_append.1 hz with hz | hz
 ·split at hz
  ·rename_i e2
   rcases List.mem_cons.1 hz with rfl | hz
   ·have := r5 e2; omega
   rcases List.mem_append.1 hz with hz | hz
   ·exact D.enc_byt _ ho.2.2.1 z hz
   rcases List.mem_append.1 hz with hz | hz
   ·exact hd _ _ z hz
   ·exact ho.2.2.2 z hz
  ·cases hz
 ·split at hz
  ·exact hd _ _ z hz
  ·cases hz
theorem dec_at {k : Int} {b : List Int} (hb : b.head? = some k) : decM b = if ¬ (1 <= k /\ k <= 7) then (Mg.zero, 3) else if b.length < need k \/ b.length < size k b then (Mg.zero, 2) else if size k b < b.length then (Mg.zero, 3) else if rdB k b = true then (rd k b, 0) else (Mg.zero, 1) := by
 cases b with
 | nil => cases hb
 | cons k' r =>
  cases hb
  rfl
theorem dec_enc {m : Mg} (hr : MgR m) (ho : m.ok) : decM (encM m) = (m, 0) := by
 have e := rd_enc (m := m) [] hr ho
 have s := size_enc (m := m) [] hr ho
 rw [List.append_nil] at e s
 have n := need_enc (m := m) hr ho
 have hb := enc_byt hr ho
 rw [dec_at (k := m.kind) rfl, if_neg (not_not_intro ⟨hr.1, hr.2.1⟩), if_neg (by omega), if_neg (by omega), if_pos, e]
 rw [rdB_iff, rd_right ⟨hr.1, hr.2.1⟩ hb, e]
 exact hr
open Go.RowKit
open D (Da Blk)
open K (numR takeR failW numOf)
def byteR (st : List Int × Int) : Nat -> List Int × (List Int × Int)
 | 0 => ([], st)
 | n + 1 => ((byteR st n).1 ++ [(numR (byteR st n).2 1).1], (numR (byteR st n).2 1).2)
theorem byteR_len (st : List Int × Int) (n : Nat) : (byteR st n).1.length = n := by
 induction n with
 | zero => rfl
 | succ n ih => simp [byteR, ih]
theorem numR_one (m : List Int) (h : 0 < m.length) : numR (m, 0) 1 = (m.getD 0 0, (m.drop 1, 0)) := by
 unfold numR takeR
 cases m with
 | nil => exact absurd h (Nat.lt_irrefl _)
 | cons x r =>
  rw [if_pos ⟨by decide, by decide⟩, if_neg (by simp), if_neg (by simp)]
  simp [numOf]
theorem numR_none (st : List Int × Int) (hn : st.2 ≠ 0 -> st.1 = []) (h : st.1.length = 0) : (numR st 1).1 = 0 /\ (numR st 1).2 = ([], if st.2 ≠ 0 then st.2 else 2) := by
 obtain ⟨m, e⟩ := st
 obtain rfl : m = [] := List.eq_nil_of_length_eq_zero h
 unfold numR takeR
 rw [if_pos ⟨by decide, by decide⟩]
 by_cases he : e = 0
 ·subst he
  exact ⟨rfl, rfl⟩
 ·rw [if_pos (by simpa using he), if_pos (by simpa using he)]
  exact ⟨rfl, rfl⟩
theorem byteR_ok (m : List Int) (n : Nat) (h : n <= m.length) : byteR (m, 0) n = (m.take n, (m.drop n, 0)) := by
 induction n with
 | zero => rfl
 | succ n ih =>
  have hx := ih (by omega)
  unfold byteR
  rw [hx, numR_one _ (by rw [List.length_drop]; omega)]
  simp only [List.drop_drop]
  rw [K.take_snoc m n (by omega), List.getD_eq_getElem?_getD, List.getElem?_drop, Nat.add_zero, <- List.getD_eq_getElem?_getD]
theorem byteR_bad (e : Int) (he : e ≠ 0) (n : Nat) : (byteR ([], e) n).2 = ([], e) := by
 induction n with
 | zero => rfl
 | succ n ih =>
  show (numR (byteR ([], e) n).2 1).2 = _
  rw [ih, (numR_none ([], e) (fun _ => rfl) rfl).2, if_pos he]
theorem byteR_short (m : List Int) (n : Nat) (h : m.length < n) : (byteR (m, 0) n).2 = ([], 2) := by
 induction n with
 | zero => omega
 | succ n ih =>
  show (numR (byteR (m, 0) n).2 1).2 = _
  by_cases hx : m.length < n
  ·rw [ih hx, (numR_none ([], 2) (fun _ => rfl) rfl).2]
   rfl
  ·rw [byteR_ok m n (by omega), (numR_none (m.drop n, 0) (fun hq => absurd rfl hq) (by rw [List.length_drop]; omega)).2]
   rfl
open F.D (ret_bool)
def Mg.cells (m : Mg) : List Value := .int .i64 m.kind :: .int .u64 m.epoch :: .int .u64 m.id :: .int .i64 m.task :: .int .i64 m.val :: (m.data.cells ++ [.string (strOfNums m.path)])
def Mg.vl (m : Mg) : Value := .agg m.cells.toArray
theorem Tryz.size36 : (Tryz.prog.info? 36).map (·.size) = some 15 := by kernel_rfl
theorem Mg.cells_len (m : Mg) (h : m.data.ok) : m.cells.length = 15 := by simp [Mg.cells, D.Da.cells_len _ h]
theorem Mg.cells_one (m : Mg) : m.cells.toArray.all (·.oneCell') = true := by simp [Mg.cells, D.Da.cells, Value.oneCell']
theorem Mg.size (m : Mg) (h : m.data.ok) : (Tryz.prog.info? 36).map (·.size) = some m.cells.toArray.size := by
 rw [Tryz.size36, List.size_toArray, m.cells_len h]
def zero15 : List Value := [.int .i64 0, .int .u64 0, .int .u64 0, .int .i64 0, .int .i64 0, .int .u32 0, .int .u32 0, .int .u64 0, .int .u64 0, .int .u64 0, .int .u64 0, .int .u64 0, .int .u64 0, .int .u64 0, .string ⟨#[]⟩]
def Mg.same (x y : Mg) : Bool := x.kind == y.kind && x.epoch == y.epoch && x.id == y.id && x.task == y.task && x.val == y.val && x.data.same y.data && x.path == y.path
theorem Mg.same_iff (x y : Mg) : x.same y = true ↔ x = y := by
 constructor
 ·intro h
  simp only [Mg.same, Bool.and_eq_true, beq_iff_eq, D.Da.same_iff] at h
  obtain ⟨⟨⟨⟨⟨⟨h1, h2⟩, h3⟩, h4⟩, h5⟩, h6⟩, h7⟩ := h
  exact mg_ext h1 h2 h3 h4 h5 h6 h7
 ·rintro rfl
  simp only [Mg.same, Bool.and_eq_true, beq_iff_eq, D.Da.same_iff, and_self]
theorem str_eq {l k : List Int} (hl : D.Byt l) (hk : D.Byt k) : ((strOfNums l).toList == (strOfNums k).toList) = (l == k) := by
 rw [Bool.eq_iff_iff, beq_iff_eq, beq_iff_eq]
 exact ⟨D.str_inj hl hk, fun h => by rw [h]⟩
theorem equalIn_da9 (x y : Da) (w : World) (hx : x.ok) (hy : y.ok) : (Op.equalIn 9999 34 x.val y.val).run Tryz.prog w = .ok (x.same y) w := by
 have u22 := Tryz.underlying31
 have a22 := Tryz.isAgg31
 have z22 := Tryz.sizeOf31
 have u23 := Tryz.underlying30
 have a23 := Tryz.isAgg30
 have z23 := Tryz.sizeOf30
 have u24 := Tryz.underlying32
 have a24 := Tryz.isAgg32
 have z24 := Tryz.sizeOf32
 have hS : Tryz.prog.underlying 34 = some (.struct (Tryz.prog.fieldsOf 34)) := by kernel_rfl
 have hp : Tryz.prog.stoodInHeld 34 = false := by kernel_rfl
 obtain ⟨a, b, c, g⟩ := x
 obtain ⟨a', b', c', g'⟩ := y
 have hl := hx.2.2.2.1
 have hl' := hy.2.2.2.1
 obtain ⟨x0, x1, x2, x3, x4, x5, rfl⟩ := D.six hl
 obtain ⟨y0, y1, y2, y3, y4, y5, rfl⟩ := D.six hl'
 clear hx hy hl hl'
 have hA : ∀ W : World, (Op.equalIn 9998 32 (.agg #[.int .u64 x0, .int .u64 x1, .int .u64 x2, .int .u64 x3, .int .u64 x4, .int .u64 x5]) (.agg #[.int .u64 y0, .int .u64 y1, .int .u64 y2, .int .u64 y3, .int .u64 y4, .int .u64 y5])).run Tryz.prog W = .ok (([x0, x1, x2, x3, x4, x5] : List Int) == [y0, y1, y2, y3, y4, y5]) W :=
  fun W => D.equalIn_row W 9996 32 30 6 .u64 u24 u23 z23 [x0, x1, x2, x3, x4, x5] [y0, y1, y2, y3, y4, y5] rfl rfl
 unfold D.Da.val D.Da.cells
 rw [show (9999 : Nat) = 9998 + 1 from rfl, run_equalIn_agg w 9998 34 _ _ hS hp]
 simp only [Program.fieldsOf, Tryz.underlying34]
 unfold D.Da.same
 dsimp only
 generalize (([x0, x1, x2, x3, x4, x5] : List Int) == [y0, y1, y2, y3, y4, y5]) = q at *
 simp only [List.map_cons, List.map_nil]
 go_simp
 by_cases h1 : a = a' <;> by_cases h2 : b = b' <;> by_cases h3 : c = c' <;> cases q <;> simp [h1, h2, h3]
theorem equalIn_mg (x y : Mg) (w : World) (hx : x.data.ok) (hy : y.data.ok) (px : D.Byt x.path) (py : D.Byt y.path) : (Op.equalIn 10000 36 x.vl y.vl).run Tryz.prog w = .ok (x.same y) w := by
 have hS : Tryz.prog.underlying 36 = some (.struct (Tryz.prog.fieldsOf 36)) := by kernel_rfl
 have hp : Tryz.prog.stoodInHeld 36 = false := by kernel_rfl
 have u3 := Tryz.underlying3
 have u22 := Tryz.underlying30
 have u9 := Tryz.underlying9
 have a26 := Tryz.isAgg34
 have z26 := Tryz.sizeOf34
 obtain ⟨k, e, i, t, v, d, p⟩ := x
 obtain ⟨k', e', i', t', v', d', p'⟩ := y
 simp only at hx hy px py
 have hD : ∀ W : World, (Op.equalIn 9999 34 d.val d'.val).run Tryz.prog W = .ok (d.same d') W := fun W => equalIn_da9 d d' W hx hy
 have hs := str_eq px py
 obtain ⟨a, b, c, g⟩ := d
 obtain ⟨a', b', c', g'⟩ := d'
 have hl := hx.2.2.2.1
 have hl' := hy.2.2.2.1
 simp only at hl hl'
 obtain ⟨x0, x1, x2, x3, x4, x5, rfl⟩ := D.six hl
 obtain ⟨y0, y1, y2, y3, y4, y5, rfl⟩ := D.six hl'
 unfold D.Da.val D.Da.cells at hD
 simp only [List.map_cons, List.map_nil] at hD
 unfold Mg.vl Mg.cells D.Da.cells
 rw [show (10000 : Nat) = 9999 + 1 from rfl, run_equalIn_agg w 9999 36 _ _ hS hp]
 simp only [Program.fieldsOf, Tryz.underlying36]
 unfold Mg.same
 dsimp only
 rw [<- hs]
 clear hx hy px py hl hl' hs
 generalize (Da.mk a b c [x0, x1, x2, x3, x4, x5]).same (Da.mk a' b' c' [y0, y1, y2, y3, y4, y5]) = q at *
 generalize strOfNums p = s at *
 generalize strOfNums p' = s' at *
 simp only [List.map_cons, List.map_nil, List.cons_append, List.nil_append]
 go_simp
 by_cases h1 : k = k' <;> by_cases h2 : e = e' <;> by_cases h3 : i = i' <;> by_cases h4 : t = t' <;> by_cases h5 : v = v' <;> by_cases h7 : s.toList = s'.toList <;> cases q <;> simp [h1, h2, h3, h4, h5, h7]
theorem eql_mg (x y : Mg) (w : World) (hx : x.data.ok) (hy : y.data.ok) (px : D.Byt x.path) (py : D.Byt y.path) : (binOp .eql 36 x.vl y.vl).run Tryz.prog w = .ok (.bool (x.same y)) w := by
 have := equalIn_mg x y w hx hy px py
 unfold Mg.vl at *
 rw [run_eql_struct, this]
 rfl
theorem neq_mg (x y : Mg) (w : World) (hx : x.data.ok) (hy : y.data.ok) (px : D.Byt x.path) (py : D.Byt y.path) : (binOp .neq 36 x.vl y.vl).run Tryz.prog w = .ok (.bool (!x.same y)) w := by
 have := equalIn_mg x y w hx hy px py
 unfold Mg.vl at *
 rw [run_neq_struct, this]
 rfl
theorem guard_mg (op : BinOp) (a b : Operand) (x y : Mg) (w : World) (hop : op = .eql \/ op = .neq) : (eqGuard op 36 a b x.vl y.vl).run Tryz.prog w = .ok () w := by
 unfold Mg.vl
 rcases hop with rfl | rfl <;> go_simp
def idQ (k : Int) : Bool := !(k == 1)
def caQ (k : Int) : Bool := k == 2
def vaQ (k : Int) : Bool := k == 4 || (k == 5 || k == 7)
def kiQ (k : Int) : Bool := decide (1 <= k /\ k <= 7)
theorem isKind_any (k : Int) (w : World) : Calls Tryz.prog 31 #[.int .i64 k] w fun e w' => e = .returned (.bool (kiQ k)) /\ w' = w := by
 unfold kiQ
 by_cases h1 : 1 <= k
 ·by_cases h2 : k <= 7
  ·rw [decide_eq_true (And.intro h1 h2)]
   go_enter Tryz.func31, Tryz.ntmps31
   go_wp2
   go_ret
   exact ⟨rfl, rfl⟩
  ·rw [decide_eq_false (fun h => h2 h.2)]
   go_enter Tryz.func31, Tryz.ntmps31
   go_wp2
   go_ret
   exact ⟨rfl, rfl⟩
 ·rw [decide_eq_false (fun h => h1 h.1)]
  go_enter Tryz.func31, Tryz.ntmps31
  go_wp2
  go_ret
  exact ⟨rfl, rfl⟩
theorem hasID_any (k : Int) (w : World) : Calls Tryz.prog 60 #[.int .i64 k] w fun e w' => e = .returned (.bool (idQ k)) /\ w' = w := by
 unfold idQ
 go_enter Tryz.func60, Tryz.ntmps60
 go_wp2
 go_ret
 exact ⟨rfl, rfl⟩
theorem hasCall_any (k : Int) (w : World) : Calls Tryz.prog 47 #[.int .i64 k] w fun e w' => e = .returned (.bool (caQ k)) /\ w' = w := by
 unfold caQ
 go_enter Tryz.func47, Tryz.ntmps47
 go_wp2
 go_ret
 exact ⟨rfl, rfl⟩
theorem hasVal_any (k : Int) (w : World) : Calls Tryz.prog 63 #[.int .i64 k] w fun e w' => e = .returned (.bool (vaQ k)) /\ w' = w := by
 unfold vaQ
 cases h4 : k == 4
 ·cases h5 : k == 5
  ·go_enter Tryz.func63, Tryz.ntmps63
   go_wp2
   go_ret
   exact ⟨rfl, rfl⟩
  ·go_enter Tryz.func63, Tryz.ntmps63
   go_wp2
   go_ret
   exact ⟨rfl, rfl⟩
 ·go_enter Tryz.func63, Tryz.ntmps63
  go_wp2
  go_ret
  exact ⟨rfl, rfl⟩
theorem Mg.c0 (m : Mg) : m.cells[0]? = some (.int .i64 m.kind) := rfl
theorem Mg.c1 (m : Mg) : m.cells[1]? = some (.int .u64 m.epoch) := rfl
theorem Mg.c2 (m : Mg) : m.cells[2]? = some (.int .u64 m.id) := rfl
theorem Mg.c3 (m : Mg) : m.cells[3]? = some (.int .i64 m.task) := rfl
theorem Mg.c4 (m : Mg) : m.cells[4]? = some (.int .i64 m.val) := rfl
theorem Mg.cD (m : Mg) (h : m.data.ok) (j : Nat) (hj : j < 9) : m.cells[5 + j]? = m.data.cells[j]? := by
 unfold Mg.cells
 rw [show 5 + j = j + 1 + 1 + 1 + 1 + 1 from by omega]
 simp only [List.getElem?_cons_succ]
 rw [List.getElem?_append_left (by rw [D.Da.cells_len _ h]; exact hj)]
theorem Mg.c14 (m : Mg) (h : m.data.ok) : m.cells[14]? = some (.string (strOfNums m.path)) := by
 unfold Mg.cells
 rw [show 14 = 9 + 1 + 1 + 1 + 1 + 1 from by omega]
 simp only [List.getElem?_cons_succ]
 rw [List.getElem?_append_right (by rw [D.Da.cells_len _ h]; exact Nat.le_refl _), D.Da.cells_len _ h]
 rfl
def withinB (m : Mg) : Bool :=
 if m.kind = 2 then decide (1 <= m.task) && (decide (m.task <= 4) && decide (m.path.length <= 256))
 else if m.kind = 7 then decide (0 <= m.val) && decide (m.val <= 1) else decide (0 <= m.val) && decide (m.val <= 65535)
theorem within_any (m : Mg) (w : World) (hd : m.data.ok) : Calls Tryz.prog 44 #[m.vl] w fun e w' => e = .returned (.bool (withinB m)) /\ Below w.heap.size w w' := by
 have E1 : Hid (∀ o, Below w.heap.size w (w.alloc o)) := fun o => (Below.refl _ _).alloc (Nat.le_refl _) _
 have Z := D.blk_new w m.cells.toArray 36
 have c0 := (Z.cell 0).trans m.c0
 have c3 := (Z.cell 3).trans m.c3
 have c4 := (Z.cell 4).trans m.c4
 have c14 := (Z.cell 14).trans (m.c14 hd)
 have HL : (strOfNums m.path).size = m.path.length := strOfNums_size _
 have HW : Hid (withinB m = if m.kind = 2 then decide (1 <= m.task) && (decide (m.task <= 4) && decide (m.path.length <= 256)) else if m.kind = 7 then decide (0 <= m.val) && decide (m.val <= 1) else decide (0 <= m.val) && decide (m.val <= 65535)) := rfl
 clear Z
 unfold Mg.vl
 generalize m.cells = R at *
 generalize withinB m = A at *
 generalize strOfNums m.path = s at *
 obtain ⟨k, ep, id, t, v, d, p⟩ := m
 simp only at *
 generalize p.length = n at *
 clear hd
 by_cases h2 : k = 2
 ·subst h2
  have HA : Hid (A = (decide (1 <= t) && (decide (t <= 4) && decide (n <= 256)))) := HW.out
  clear HW
  by_cases t1 : 1 <= t
  ·by_cases t4 : t <= 4
   ·have hn : decide ((n : Int) <= 256) = decide (n <= 256) := by simp only [decide_eq_decide]; omega
    have HB : Hid (A = decide (n <= 256)) := HA.out.trans (by simp [t1, t4])
    clear HA
    go_enter Tryz.func44, Tryz.ntmps44
    go_wp2
    go_ret
    exact ⟨ret_bool HB.out.symm, E1.out _⟩
   ·have HB : Hid (A = false) := HA.out.trans (by simp [t4])
    clear HA
    go_enter Tryz.func44, Tryz.ntmps44
    go_wp2
    go_ret
    exact ⟨ret_bool HB.out.symm, E1.out _⟩
  ·have HB : Hid (A = false) := HA.out.trans (by simp [t1])
   clear HA
   go_enter Tryz.func44, Tryz.ntmps44
   go_wp2
   go_ret
   exact ⟨ret_bool HB.out.symm, E1.out _⟩
 ·have k2 : (k == 2) = false := by simp [h2]
  by_cases h7 : k = 7
  ·subst h7
   have HA : Hid (A = (decide (0 <= v) && decide (v <= 1))) := HW.out
   clear HW h2 k2
   by_cases v0 : 0 <= v
   ·by_cases v1 : v <= 1
    ·have HB : Hid (A = true) := HA.out.trans (by simp [v0, v1])
     clear HA
     go_enter Tryz.func44, Tryz.ntmps44
     go_wp2
     go_ret
     exact ⟨ret_bool HB.out.symm, E1.out _⟩
    ·have HB : Hid (A = false) := HA.out.trans (by simp [v1])
     clear HA
     go_enter Tryz.func44, Tryz.ntmps44
     go_wp2
     go_ret
     exact ⟨ret_bool HB.out.symm, E1.out _⟩
   ·have HB : Hid (A = false) := HA.out.trans (by simp [v0])
    clear HA
    go_enter Tryz.func44, Tryz.ntmps44
    go_wp2
    go_ret
    exact ⟨ret_bool HB.out.symm, E1.out _⟩
  ·have k7 : (k == 7) = false := by simp [h7]
   have HA : Hid (A = (decide (0 <= v) && decide (v <= 65535))) := HW.out.trans ((if_neg h2).trans (if_neg h7))
   clear HW h2 h7
   by_cases v0 : 0 <= v
   ·by_cases v1 : v <= 65535
    ·have HB : Hid (A = true) := HA.out.trans (by simp [v0, v1])
     clear HA
     go_enter Tryz.func44, Tryz.ntmps44
     go_wp2
     go_ret
     exact ⟨ret_bool HB.out.symm, E1.out _⟩
    ·have HB : Hid (A = false) := HA.out.trans (by simp [v1])
     clear HA
     go_enter Tryz.func44, Tryz.ntmps44
     go_wp2
     go_ret
     exact ⟨ret_bool HB.out.symm, E1.out _⟩
   ·have HB : Hid (A = false) := HA.out.trans (by simp [v0])
    clear HA
    go_enter Tryz.func44, Tryz.ntmps44
    go_wp2
    go_ret
    exact ⟨ret_bool HB.out.symm, E1.out _⟩
def onlyM (m : Mg) : Mg where
 kind := m.kind
 epoch := m.epoch
 id := if m.kind = 1 then 0 else m.id
 task := if m.kind = 2 then m.task else 0
 val := if m.kind = 4 \/ m.kind = 5 \/ m.kind = 7 then m.val else 0
 data := if m.kind = 2 then m.data else Da.zero
 path := if m.kind = 2 then m.path else []
theorem va_iff (k : Int) : vaQ k = decide (k = 4 \/ k = 5 \/ k = 7) := by
 unfold vaQ
 rw [Bool.eq_iff_iff]
 simp
theorem room3 (w : World) (o o' o'' : Obj) : Below w.heap.size w (((w.alloc o).alloc o').alloc o'') :=
 (((Below.refl _ _).alloc (Nat.le_refl _) _).alloc (by rw [D.size_alloc']; omega) _).alloc (by rw [D.size_alloc', D.size_alloc']; omega) _
theorem only_none (k ep id t v a b c x0 x1 x2 x3 x4 x5 : Int) (s : ByteArray) (w : World) (q1 : idQ k = false) (q2 : caQ k = false) (q3 : vaQ k = false) (V : Value) (hV : V = .agg #[.int .i64 k, .int .u64 ep, .int .u64 0, .int .i64 0, .int .i64 0, .int .u32 0, .int .u32 0, .int .u64 0, .int .u64 0, .int .u64 0, .int .u64 0, .int .u64 0, .int .u64 0, .int .u64 0, .string ⟨#[]⟩]) :
  Calls Tryz.prog 43 #[.agg #[.int .i64 k, .int .u64 ep, .int .u64 id, .int .i64 t, .int .i64 v, .int .u32 a, .int .u32 b, .int .u64 c, .int .u64 x0, .int .u64 x1, .int .u64 x2, .int .u64 x3, .int .u64 x4, .int .u64 x5, .string s]] w fun e w' => e = .returned V /\ Below w.heap.size w w' := by
 have HV : Hid (V = .agg #[.int .i64 k, .int .u64 ep, .int .u64 0, .int .i64 0, .int .i64 0, .int .u32 0, .int .u32 0, .int .u64 0, .int .u64 0, .int .u64 0, .int .u64 0, .int .u64 0, .int .u64 0, .int .u64 0, .string ⟨#[]⟩]) := hV
 have HB : Hid (∀ o o' o'', Below w.heap.size w (((w.alloc o).alloc o').alloc o'')) := room3 w
 clear hV
 go_enter Tryz.func43, Tryz.ntmps43
 go_wp2_with (first | (go_at_call 60; refine (hasID_any _ _).mono ?_; rintro e w' ⟨rfl, rfl⟩; rw [q1]) | (go_at_call 47; refine (hasCall_any _ _).mono ?_; rintro e w' ⟨rfl, rfl⟩; rw [q2]) | (go_at_call 63; refine (hasVal_any _ _).mono ?_; rintro e w' ⟨rfl, rfl⟩; rw [q3]))
 refine bodyPost_ret (v := V) (by simp [results, Tryz.results43, go_sem, HV.out]) rfl ⟨rfl, HB.out _ _ _⟩
theorem only_id (k ep id t v a b c x0 x1 x2 x3 x4 x5 : Int) (s : ByteArray) (w : World) (q1 : idQ k = true) (q2 : caQ k = false) (q3 : vaQ k = false) (V : Value) (hV : V = .agg #[.int .i64 k, .int .u64 ep, .int .u64 id, .int .i64 0, .int .i64 0, .int .u32 0, .int .u32 0, .int .u64 0, .int .u64 0, .int .u64 0, .int .u64 0, .int .u64 0, .int .u64 0, .int .u64 0, .string ⟨#[]⟩]) :
  Calls Tryz.prog 43 #[.agg #[.int .i64 k, .int .u64 ep, .int .u64 id, .int .i64 t, .int .i64 v, .int .u32 a, .int .u32 b, .int .u64 c, .int .u64 x0, .int .u64 x1, .int .u64 x2, .int .u64 x3, .int .u64 x4, .int .u64 x5, .string s]] w fun e w' => e = .returned V /\ Below w.heap.size w w' := by
 have HV : Hid (V = .agg #[.int .i64 k, .int .u64 ep, .int .u64 id, .int .i64 0, .int .i64 0, .int .u32 0, .int .u32 0, .int .u64 0, .int .u64 0, .int .u64 0, .int .u64 0, .int .u64 0, .int .u64 0, .int .u64 0, .string ⟨#[]⟩]) := hV
 have HB : Hid (∀ o o' o'', Below w.heap.size w (((w.alloc o).alloc o').alloc o'')) := room3 w
 clear hV
 go_enter Tryz.func43, Tryz.ntmps43
 go_wp2_with (first | (go_at_call 60; refine (hasID_any _ _).mono ?_; rintro e w' ⟨rfl, rfl⟩; rw [q1]) | (go_at_call 47; refine (hasCall_any _ _).mono ?_; rintro e w' ⟨rfl, rfl⟩; rw [q2]) | (go_at_call 63; refine (hasVal_any _ _).mono ?_; rintro e w' ⟨rfl, rfl⟩; rw [q3]))
 refine bodyPost_ret (v := V) (by simp [results, Tryz.results43, go_sem, HV.out]) rfl ⟨rfl, HB.out _ _ _⟩
theorem only_val (k ep id t v a b c x0 x1 x2 x3 x4 x5 : Int) (s : ByteArray) (w : World) (q1 : idQ k = true) (q2 : caQ k = false) (q3 : vaQ k = true) (V : Value) (hV : V = .agg #[.int .i64 k, .int .u64 ep, .int .u64 id, .int .i64 0, .int .i64 v, .int .u32 0, .int .u32 0, .int .u64 0, .int .u64 0, .int .u64 0, .int .u64 0, .int .u64 0, .int .u64 0, .int .u64 0, .string ⟨#[]⟩]) :
  Calls Tryz.prog 43 #[.agg #[.int .i64 k, .int .u64 ep, .int .u64 id, .int .i64 t, .int .i64 v, .int .u32 a, .int .u32 b, .int .u64 c, .int .u64 x0, .int .u64 x1, .int .u64 x2, .int .u64 x3, .int .u64 x4, .int .u64 x5, .string s]] w fun e w' => e = .returned V /\ Below w.heap.size w w' := by
 have HV : Hid (V = .agg #[.int .i64 k, .int .u64 ep, .int .u64 id, .int .i64 0, .int .i64 v, .int .u32 0, .int .u32 0, .int .u64 0, .int .u64 0, .int .u64 0, .int .u64 0, .int .u64 0, .int .u64 0, .int .u64 0, .string ⟨#[]⟩]) := hV
 have HB : Hid (∀ o o' o'', Below w.heap.size w (((w.alloc o).alloc o').alloc o'')) := room3 w
 clear hV
 go_enter Tryz.func43, Tryz.ntmps43
 go_wp2_with (first | (go_at_call 60; refine (hasID_any _ _).mono ?_; rintro e w' ⟨rfl, rfl⟩; rw [q1]) | (go_at_call 47; refine (hasCall_any _ _).mono ?_; rintro e w' ⟨rfl, rfl⟩; rw [q2]) | (go_at_call 63; refine (hasVal_any _ _).mono ?_; rintro e w' ⟨rfl, rfl⟩; rw [q3]))
 refine bodyPost_ret (v := V) (by simp [results, Tryz.results43, go_sem, HV.out]) rfl ⟨rfl, HB.out _ _ _⟩
theorem only_call (k ep id t v a b c x0 x1 x2 x3 x4 x5 : Int) (s : ByteArray) (w : World) (q1 : idQ k = true) (q2 : caQ k = true) (q3 : vaQ k = false) (V : Value) (hV : V = .agg #[.int .i64 k, .int .u64 ep, .int .u64 id, .int .i64 t, .int .i64 0, .int .u32 a, .int .u32 b, .int .u64 c, .int .u64 x0, .int .u64 x1, .int .u64 x2, .int .u64 x3, .int .u64 x4, .int .u64 x5, .string s]) :
  Calls Tryz.prog 43 #[.agg #[.int .i64 k, .int .u64 ep, .int .u64 id, .int .i64 t, .int .i64 v, .int .u32 a, .int .u32 b, .int .u64 c, .int .u64 x0, .int .u64 x1, .int .u64 x2, .int .u64 x3, .int .u64 x4, .int .u64 x5, .string s]] w fun e w' => e = .returned V /\ Below w.heap.size w w' := by
 have HV : Hid (V = .agg #[.int .i64 k, .int .u64 ep, .int .u64 id, .int .i64 t, .int .i64 0, .int .u32 a, .int .u32 b, .int .u64 c, .int .u64 x0, .int .u64 x1, .int .u64 x2, .int .u64 x3, .int .u64 x4, .int .u64 x5, .string s]) := hV
 have HB : Hid (∀ o o' o'', Below w.heap.size w (((w.alloc o).alloc o').alloc o'')) := room3 w
 clear hV
 go_enter Tryz.func43, Tryz.ntmps43
 go_wp2_with (first | (go_at_call 60; refine (hasID_any _ _).mono ?_; rintro e w' ⟨rfl, rfl⟩; rw [q1]) | (go_at_call 47; refine (hasCall_any _ _).mono ?_; rintro e w' ⟨rfl, rfl⟩; rw [q2]) | (go_at_call 63; refine (hasVal_any _ _).mono ?_; rintro e w' ⟨rfl, rfl⟩; rw [q3]))
 go_region
 all_goals
  go_wp2_with (first | (go_at_call 60; refine (hasID_any _ _).mono ?_; rintro e w' ⟨rfl, rfl⟩; rw [q1]) | (go_at_call 47; refine (hasCall_any _ _).mono ?_; rintro e w' ⟨rfl, rfl⟩; rw [q2]) | (go_at_call 63; refine (hasVal_any _ _).mono ?_; rintro e w' ⟨rfl, rfl⟩; rw [q3]))
  refine bodyPost_ret (v := V) (by simp [results, Tryz.results43, go_sem, HV.out]) rfl ⟨rfl, (HB.out _ _ _).drew⟩
theorem only_any (m : Mg) (w : World) (hd : m.data.ok) : Calls Tryz.prog 43 #[m.vl] w fun e w' => e = .returned (onlyM m).vl /\ Below w.heap.size w w' := by
 obtain ⟨k, ep, id, t, v, d, p⟩ := m
 obtain ⟨a, b, c, g⟩ := d
 have hg := hd.2.2.2.1
 simp only at hg
 obtain ⟨x0, x1, x2, x3, x4, x5, rfl⟩ := D.six hg
 by_cases h2 : k = 2
 ·subst h2
  exact only_call 2 ep id t v a b c x0 x1 x2 x3 x4 x5 (strOfNums p) w rfl rfl rfl _ rfl
 ·have q2 : caQ k = false := beq_false_of_ne h2
  by_cases h1 : k = 1
  ·subst h1
   exact only_none 1 ep id t v a b c x0 x1 x2 x3 x4 x5 (strOfNums p) w rfl rfl rfl _ rfl
  ·have q1 : idQ k = true := by unfold idQ; rw [beq_false_of_ne h1]; rfl
   by_cases h4 : k = 4 \/ k = 5 \/ k = 7
   ·refine only_val k ep id t v a b c x0 x1 x2 x3 x4 x5 (strOfNums p) w q1 q2 (by rw [va_iff]; exact decide_eq_true h4) _ ?_
    unfold onlyM
    simp only [if_neg h1, if_neg h2, if_pos h4]
    rfl
   ·refine only_id k ep id t v a b c x0 x1 x2 x3 x4 x5 (strOfNums p) w q1 q2 (by rw [va_iff]; exact decide_eq_false h4) _ ?_
    unfold onlyM
    simp only [if_neg h1, if_neg h2, if_neg h4]
    rfl
end Go.Proofs.YtmcgcbgblgmmkaaGreatDoor.G
