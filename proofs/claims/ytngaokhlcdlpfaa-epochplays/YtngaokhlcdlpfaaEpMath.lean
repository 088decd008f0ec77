/-
  The machines of package epoch as plain data: what they are behind each access, what the cells are. No program is named here.
-/
import Derived.Test.YtngaokhlcdlpfaaEpoch
namespace Go.Proofs.Ytngaokhlcdlpfaa
open Go.RowKit
open W64

/-- An Enter: 0: the Load is next, 1: the Store, 2: done; the epoch that it loaded. -/
structure En where
  i : Nat
  ep : Int
/-- An Advance: 0: the Load of the epoch is next, 1 to n: of an announcement, then the Cas. -/
structure Ad where
  i : Nat
  old : Int
  won : Bool
  fin : Bool
/-- A word and 1. -/
def upN (x : Int) : Int := IntKind.u64.wrap (x + 1)
theorem upN_in (x : Int) : 0 ≤ upN x ∧ upN x < 18446744073709551616 := by
  unfold upN
  rw [IntKind.wrap_u64]; omega
def En.xs (pn wk : Nat) (xs : List Int) (e : En) : List Int := if e.i = 0 then xs else xs.set (pn + wk) (pinV e.ep)
def En.go (at_ : Nat) (xs : List Int) (e : En) : En := if e.i = 0 then ⟨1, epN (xs.getD at_ 0)⟩ else ⟨2, e.ep⟩
/-- The announcement that it loads next bars it. -/
def Ad.bar (pn : Nat) (xs : List Int) (a : Ad) : Bool := pinO (xs.getD (pn + (a.i - 1)) 0) && decide (pinE (xs.getD (pn + (a.i - 1)) 0) ≠ epN a.old)
def Ad.xs (at_ n : Nat) (xs : List Int) (a : Ad) : List Int := if n < a.i ∧ xs.getD at_ 0 = a.old then xs.set at_ (upN a.old) else xs
def Ad.go (at_ pn n : Nat) (xs : List Int) (a : Ad) : Ad :=
  if a.i = 0 then ⟨1, xs.getD at_ 0, a.won, false⟩
  else if a.i ≤ n then ⟨a.i + 1, a.old, a.won, a.bar pn xs⟩
  else ⟨a.i + 1, a.old, decide (xs.getD at_ 0 = a.old), true⟩
end Go.Proofs.Ytngaokhlcdlpfaa
