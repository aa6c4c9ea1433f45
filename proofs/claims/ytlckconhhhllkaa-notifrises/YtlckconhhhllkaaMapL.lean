/-
  What the program does with a map of notifications, at the operation.
-/
import Derived.Test.YtlckconhhhllkaaMapE
namespace Go.Proofs.Ytlckconhhhllkaa
open Go.RowKit Go.Maps

theorem zero_en (w : World) : (zeroValue 44).run Try.prog w = .ok En.zero.v w := by
  have := Try.zeroValue44 w
  exact this
theorem VwE.look {L : List En} {D : De} (hv : VwE D L) {v : Value} {ps : List MemPlace} {z : Int} (hr : readE v = some (D.atKey (litU z) (.held En.zero), ps)) : v = ((findI L z).getD En.zero).v := by
  obtain ⟨x, rfl, h2, _⟩ := readE_inv hr
  cases hf : findI L z with
  | some y =>
    rw [hv.find hf] at h2
    injection h2 with h2
    rw [h2]
    rfl
  | none =>
    have hn : Maps.has D (litU z) = false := by rw [hv.hasB, hf]; rfl
    rw [atKey_of_not_has hn] at h2
    injection h2 with h2
    rw [← h2]
    rfl

section
variable {w : World} {ops : Array Oper} {rest : List Oper} {o : Oper} {a : Act} {Q : Exit → Act → World → Prop} {B : Nat} {L : List En} {z : Int}
/-- 'x, is := m[k]'. -/
theorem list_getE (hg : o.guard = none) (m x : Operand) (hop : o.op = Op.lookup 60 m x true) (hm : a.eval m = .map (some B)) (hx : a.eval x = .int .u64 z) (hz : U64 z) (h : MpE w B L)
    (hK : wpList Try.prog ops Q rest (a.put o.dst (.tuple #[((findI L z).getD En.zero).v, .bool (findI L z).isSome])) w) : wpList Try.prog ops Q (o :: rest) a w := by
  obtain ⟨D, ho, hv⟩ := id h
  refine wpList_lookup_own_ok w hg m x 60 hop 23 44 lawU Try.underlying60 readE (zero_en w) (.held En.zero) [] (readE_v _) B _ D hm ho _ (litU z) hx (key_u hz) fun v ps hr => ?_
  rw [hv.look hr, hv.hasB]
  exact hK
/-- 'm[k]'. -/
theorem list_atE (hg : o.guard = none) (m x : Operand) (hop : o.op = Op.lookup 60 m x false) (hm : a.eval m = .map (some B)) (hx : a.eval x = .int .u64 z) (hz : U64 z) (h : MpE w B L)
    (hK : wpList Try.prog ops Q rest (a.put o.dst ((findI L z).getD En.zero).v) w) : wpList Try.prog ops Q (o :: rest) a w := by
  obtain ⟨D, ho, hv⟩ := id h
  refine wpList_plain hg fun K' hK' => ?_
  obtain ⟨v, ps, hrun, hr⟩ := ho.lookup lawU Try.underlying60 (zero_en w) (readE_v _) (key_u hz)
  have e := hv.look hr
  subst e
  unfold Oper.wp
  simp [execOp, hop, hm, hx, hrun, Result.andThen]
  exact hK' _ _ hK
/-- 'delete(m, k)'. -/
theorem list_delE (hg : o.guard = none) (m x : Operand) (hop : o.op = Op.call { callee := Callee.builtin Builtin.delete, args := #[m, x], argTypes := #[60, 23] }) (hm : a.eval m = .map (some B)) (hx : a.eval x = .int .u64 z) (hz : U64 z) (h : MpE w B L) (hp : L.Pairwise fun x y => x.id < y.id)
    (hK : ∀ w', MpE w' B (delL L z) → w.mapTurned w' B → wpList Try.prog ops Q rest (a.put o.dst (.tuple #[])) w') : wpList Try.prog ops Q (o :: rest) a w := by
  obtain ⟨D, ho, hv⟩ := id h
  exact wpList_delete_own w hg m x 60 23 hop 44 lawU Try.underlying60 readE B _ D hm ho _ (litU z) hx (key_u hz) fun w' h1 h2 => hK w' (mpE_of h1 (hv.del hp z)) h2
/-- 'm[k] = x', of one that stands there, and of a new one. -/
theorem run_putE {x : En} (h : MpE w B L) (hz : U64 x.id) (hn : L.length ≤ 100000) : ∃ w', (Instr.mapUpdate 60 (.map (some B)) (.int .u64 x.id) x.v).run Try.prog w = .ok () w' ∧ ((∃ y ∈ L, y.id = x.id) → MpE w' B (putL L x)) ∧ ((∀ y ∈ L, y.id ≠ x.id) → MpE w' B (L ++ [x])) ∧ w.mapTurned w' B := by
  obtain ⟨D, ho, hv⟩ := id h
  obtain ⟨w', h1, h2, h3⟩ := ho.store lawU Try.underlying60 (by unfold maxLen; omega) (key_u hz) (readE_v x)
  exact ⟨w', h1, fun hx => mpE_of h2 (hv.put hx), fun hx => mpE_of h2 (hv.add hx), h3⟩
theorem list_putE {x : En} (hg : o.guard = none) (m k v : Operand) (hop : o.op = Op.mapUpdate 60 m k v) (hm : a.eval m = .map (some B)) (hk : a.eval k = .int .u64 x.id) (hv : a.eval v = x.v) (hz : U64 x.id) (h : MpE w B L) (hn : L.length ≤ 100000)
    (hK : ∀ w', ((∃ y ∈ L, y.id = x.id) → MpE w' B (putL L x)) → ((∀ y ∈ L, y.id ≠ x.id) → MpE w' B (L ++ [x])) → w.mapTurned w' B → wpList Try.prog ops Q rest (a.put o.dst undef) w') : wpList Try.prog ops Q (o :: rest) a w := by
  refine wpList_plain hg fun K' hK' => ?_
  obtain ⟨w', hrun, h1, h2, h3⟩ := run_putE h hz hn
  unfold Oper.wp
  simp [execOp, hop, hm, hk, hv, hrun, Result.andThen]
  exact hK' _ _ (hK w' h1 h2 h3)
/-- 'len(m)'. -/
theorem list_lenE (hg : o.guard = none) (m : Operand) (hop : o.op = Op.call { callee := Callee.builtin Builtin.len, args := #[m], argTypes := #[60] }) (hm : a.eval m = .map (some B)) (h : MpE w B L)
    (hK : wpList Try.prog ops Q rest (a.put o.dst (.int .i64 L.length)) w) : wpList Try.prog ops Q (o :: rest) a w := by
  obtain ⟨D, ho, hv⟩ := id h
  refine wpList_len_own w hg m 60 hop 23 44 Try.underlying60 readE B _ D hm ho ?_
  rw [hv.size]
  exact hK
/-- 'for .. range m': it begins. -/
theorem list_rangeE (hg : o.guard = none) (m : Operand) (hop : o.op = Op.range 60 m) (hm : a.eval m = .map (some B)) (h : MpE w B L)
    (hK : ∀ (D : De) (w' : World), VwE D L → w'.ranges Try.prog 23 readE B w.heap.size L.length D (Maps.has D) (Maps.size D) → w.grownBy w' none → w'.heap.size = w.heap.size + 1 → wpList Try.prog ops Q rest (a.put o.dst (.pointer (some ⟨w.heap.size, 0, none⟩))) w') : wpList Try.prog ops Q (o :: rest) a w := by
  obtain ⟨D, ho, hv⟩ := h
  exact wpList_range_own w hg m 60 hop 23 44 lawU Try.underlying60 readE B _ D hm ho fun w' h1 h2 h3 => hK D w' hv h1 h2 h3
/-- its next round. -/
theorem list_nextE {r n cnt : Nat} {D : De} {left : Lit → Bool} (hg : o.guard = none) (it : Operand) (hop : o.op = Op.next it false) (hit : a.eval it = .pointer (some ⟨r, 0, none⟩)) (h : w.ranges Try.prog 23 readE B r n D left cnt) (hv : VwE D L)
    (hDone : cnt = 0 → (∀ kl, left kl = false) → wpList Try.prog ops Q rest (a.put o.dst (.tuple #[.bool false])) w)
    (hMore : ∀ (x : En) (w' : World) (cnt' : Nat), x ∈ L → left (litU x.id) = true → w'.ranges Try.prog 23 readE B r n D (fun z => left z && !z.sameKey (litU x.id)) cnt' → cnt' < cnt → w.grownBy w' (some r) → w'.heap.size = w.heap.size →
      (Instr.entry (.pointer (some ⟨r, 0, none⟩))).run Try.prog w' = .ok (.tuple #[.int .u64 x.id, x.v]) w' → wpList Try.prog ops Q rest (a.put o.dst (.tuple #[.bool true, .int .u64 x.id, x.v])) w') : wpList Try.prog ops Q (o :: rest) a w := by
  refine wpList_next_ranges w hg it hop 23 lawU readE (Value.int .u64) En.v (fun key kl hkey => by obtain ⟨x, rfl, _⟩ := Maps.keyOf_int_inv Try.underlying23 hkey; exact ⟨x, rfl⟩) (fun v y hy => by obtain ⟨d, ps⟩ := y; obtain ⟨x, rfl, _⟩ := readE_inv hy; exact ⟨x, rfl⟩)
    B r n D left cnt hit h hDone fun z c kl y w' cnt' hkey hlk hy hat hrg hlt hgr hsz hen => ?_
  obtain ⟨z', ez, rfl, hwz⟩ := Maps.keyOf_int_inv Try.underlying23 hkey
  cases ez
  obtain ⟨d, ps⟩ := y
  rw [readE_v] at hy
  cases hy
  obtain ⟨q, hq, hqz⟩ := (hv.has z).1 (has_true_of_atKey hat)
  have e1 := hv.val q hq (.held q)
  have e2 := hat (.held q)
  rw [hqz] at e1
  rw [show D.atKey (litU z) (.held q) = .held c from e2] at e1
  injection e1 with e1
  subst e1
  subst hqz
  exact hMore c w' cnt' hq hlk hrg hlt hgr hsz hen
/-- a store in a round, of one that stands. -/
theorem list_putR {r n cnt : Nat} {D : De} {left : Lit → Bool} {x : En} (hg : o.guard = none) (m k v : Operand) (hop : o.op = Op.mapUpdate 60 m k v) (hm : a.eval m = .map (some B)) (hk : a.eval k = .int .u64 x.id) (hv : a.eval v = x.v) (hz : U64 x.id)
    (h : w.ranges Try.prog 23 readE B r n D left cnt) (hV : VwE D L) (hn : n ≤ 100000) (hx : ∃ y ∈ L, y.id = x.id)
    (hK : ∀ w', w'.ranges Try.prog 23 readE B r n (D.put (litU x.id) (.held x)) left cnt → VwE (D.put (litU x.id) (.held x)) (putL L x) → w.mapTurned w' B → wpList Try.prog ops Q rest (a.put o.dst undef) w') : wpList Try.prog ops Q (o :: rest) a w :=
  wpList_mapUpdate_ranges hg m k v 60 hop 44 lawU Try.underlying60 hm h (by unfold maxLen; omega) _ _ (litU x.id) hk hv (key_u hz) ((hV.has _).2 hx) (.held x) [] (readE_v x) fun w' h1 h2 => hK w' h1 (hV.put hx) h2
end

end Go.Proofs.Ytlckconhhhllkaa
