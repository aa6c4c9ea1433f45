/-
  What the program's calls make of a table, as an interface: the laws are walked over any F of which this holds.
-/
import Derived.Test.YtlckconhhhllkaaBase
namespace Go.Proofs.Ytlckconhhhllkaa
open Go.RowKit

/-- what a call tells and leaves. -/
def Tld (F : World → World → Nat → Nt → Prop) (w W : World) (p : Nat) (s : Nt) (v : Value) (e : Ending) (w' : World) : Prop := e = .returned v ∧ F w w' p s ∧ Fc [62] w.heap.size W w'
/-- F w W p s: in W, which came of w in one call, a table of the call's own stands at p, and is s. -/
structure Ifc (F : World → World → Nat → Nt → Prop) : Prop where
  ok : ∀ {w W : World} {p : Nat} {s : Nt}, F w W p s → Ok s
  bel : ∀ {w W : World} {p : Nat} {s : Nt}, F w W p s → Below w.heap.size w W
  over : ∀ {w W W' : World} {p : Nat} {s : Nt}, F w W p s → Below W.heap.size W W' → F w W' p s
  frr : ∀ {w W W' : World} {p : Nat} {s : Nt} {L : List Nat}, F w W p s → Fr L [] w.heap.size W W' → 62 ∉ L → F w W' p s
  new : ∀ {w W : World} {a b c : Int}, Below w.heap.size w W → newE a b = false → U64 c → Calls Try.prog 9 #[.int .i64 a, .int .i64 b, .int .u64 c] W fun e w' => ∃ p, e = .returned (.tuple #[.pointer (some ⟨p, 0, none⟩), .int .i64 0]) ∧ F w w' p (newS a b c) ∧ Below W.heap.size W w'
  newNot : ∀ {W : World} {a b c : Int}, newE a b = true → Calls Try.prog 9 #[.int .i64 a, .int .i64 b, .int .u64 c] W fun e w' => e = .returned (.tuple #[.pointer none, .int .i64 1]) ∧ Below W.heap.size W w'
  add : ∀ {w W : World} {p : Nat} {s : Nt} {t : Int}, F w W p s → Calls Try.prog 21 #[.pointer (some ⟨p, 0, none⟩), .int .i64 t] W fun e w' => Tld F w W p (addS s t) (.tuple #[.int .u64 (addI s t), .int .i64 (addE s t)]) e w'
  send : ∀ {w W : World} {p : Nat} {s : Nt}, F w W p s → Calls Try.prog 22 #[.pointer (some ⟨p, 0, none⟩)] W fun e w' => Tld F w W p (sendS s) (optV (sendO s.L)) e w'
  reply : ∀ {w W : World} {p : Nat} {s : Nt} {ep id k v : Int}, U64 ep → U64 id → F w W p s → Calls Try.prog 19 #[.pointer (some ⟨p, 0, none⟩), .int .u64 ep, .int .u64 id, .agg #[.int .i64 k, .int .i64 v]] W fun e w' => Tld F w W p (replyS s ep id k v) (.int .i64 (replyE s ep id k)) e w'
  kill : ∀ {w W : World} {p : Nat} {s : Nt} {t : Int}, F w W p s → Calls Try.prog 26 #[.pointer (some ⟨p, 0, none⟩), .int .i64 t] W fun e w' => Tld F w W p (killS s t) (.bool (killB s t)) e w'
  tick : ∀ {w W : World} {p : Nat} {s : Nt}, F w W p s → Calls Try.prog 17 #[.pointer (some ⟨p, 0, none⟩)] W fun e w' => ∃ v, w'.ownsRow W.heap.size 23 1 v (tickO s).length (cellsU (tickO s)) ∧ Tld F w W p (tickS s) v e w'
  rise : ∀ {w W : World} {p : Nat} {s : Nt} {ep : Int}, U64 ep → F w W p s → Calls Try.prog 18 #[.pointer (some ⟨p, 0, none⟩), .int .u64 ep] W fun e w' => Tld F w W p (riseS s ep) (.int .i64 (riseE s ep)) e w'
  drop : ∀ {w W : World} {p : Nat} {s : Nt}, F w W p s → Calls Try.prog 31 #[.pointer (some ⟨p, 0, none⟩)] W fun e w' => Tld F w W p (dropS s) (.tuple #[]) e w'
  valid : ∀ {w W : World} {p : Nat} {s : Nt} {id : Int}, U64 id → F w W p s → Calls Try.prog 20 #[.pointer (some ⟨p, 0, none⟩), .int .u64 id] W fun e w' => Tld F w W p (s) (.bool (valid s id)) e w'
  ended : ∀ {w W : World} {p : Nat} {s : Nt} {t : Int}, F w W p s → Calls Try.prog 16 #[.pointer (some ⟨p, 0, none⟩), .int .i64 t] W fun e w' => Tld F w W p (endS s t) (optV (endO s.L t)) e w'
  get : ∀ {w W : World} {p : Nat} {s : Nt} {id : Int}, U64 id → F w W p s → Calls Try.prog 14 #[.pointer (some ⟨p, 0, none⟩), .int .u64 id] W fun e w' => Tld F w W p (s) (optV (findI s.L id)) e w'
  many : ∀ {w W : World} {p : Nat} {s : Nt}, F w W p s → Calls Try.prog 12 #[.pointer (some ⟨p, 0, none⟩)] W fun e w' => Tld F w W p (s) (.int .i64 s.L.length) e w'
  epoch : ∀ {w W : World} {p : Nat} {s : Nt}, F w W p s → Calls Try.prog 13 #[.pointer (some ⟨p, 0, none⟩)] W fun e w' => Tld F w W p (s) (.int .u64 s.ep) e w'

end Go.Proofs.Ytlckconhhhllkaa
