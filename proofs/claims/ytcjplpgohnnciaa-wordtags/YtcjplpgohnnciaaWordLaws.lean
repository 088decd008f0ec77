/-
  What the statements of layer 2 share: the call of 'first'.
-/
import Derived.Test.YtcjplpgohnnciaaWord
namespace Go.Proofs.Ytcjplpgohnnciaa
open W64 Go.RowKit

set_option maxHeartbeats 800000 in
theorem first_any (w : World) :
    Calls Try.prog 8 #[] w fun e w' => e = .returned (.bool true) ∧ Up w w' := by
  go_enter Try.func8, Try.ntmps8
  go_wp2_with (first
    | (go_at_call 9; refine (putHead_yes 4 2 _ (by decide)).mono ?_; rintro e w1 ⟨rfl, u1⟩)
    | (go_at_call 13; refine (putPin_yes 5 _ (by decide)).mono ?_; rintro e w' ⟨rfl, rfl⟩)
    | (go_at_call 19; refine (getPin_odd 11 _ (by decide) (by decide) (by decide)).mono ?_; rintro e w' ⟨rfl, rfl⟩)
    | (go_at_call 15; refine (getHead_any 8589934597 _ (by decide) (by decide)).mono ?_; rintro e w2 ⟨rfl, u2⟩))
  go_ret
  exact ⟨rfl, u1.trans u2⟩
end Go.Proofs.Ytcjplpgohnnciaa
