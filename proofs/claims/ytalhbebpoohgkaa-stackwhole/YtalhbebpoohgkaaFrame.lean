/-
  A law that opens a frame of so many slots, with 'for all'. No program is named here.
-/
import Derived.Test.YtalhbebpoohgkaaBase
import Derived.LoopTactic
namespace Go.Proofs.Ytalhbebpoohgkaa
open Go.RowKit

/-- For all lists of n values. -/
def All : Nat → (List Value → Prop) → Prop
  | 0, C => C []
  | n + 1, C => ∀ u, All n (fun l => C (u :: l))
theorem all_of : ∀ (n : Nat) (C : List Value → Prop) (l : List Value), l.length = n → All n C → C l
  | 0, C, [], _, h => h
  | 0, C, _ :: _, e, _ => by simp at e
  | n + 1, C, [], e, _ => by simp at e
  | n + 1, C, u :: l, e, h => all_of n (fun l => C (u :: l)) l (by simpa using e) (h u)
end Go.Proofs.Ytalhbebpoohgkaa
