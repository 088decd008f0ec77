/-
  What the statements of layer 3 share: the call of 'first'.
-/
import Derived.Test.YtgflhbemfdehlaaSize
namespace Go.Proofs.Ytgflhbemfdehlaa
open Go.RowKit

set_option maxHeartbeats 800000 in
theorem first_any (w : World) :
    Calls Try.prog 7 #[] w fun e w' => e = .returned (.bool true) ∧ Up w w' := by
  go_enter Try.func7, Try.ntmps7
  go_wp2_with (first
    | (go_at_call 8; refine (round_any _ _ _).mono ?_; rintro e w' ⟨rfl, rfl⟩)
    | (go_at_call 10; refine (alone_any _ _ _).mono ?_; rintro e w' ⟨rfl, rfl⟩)
    | (go_at_call 12; refine (fits2_any _ _ _ _).mono ?_; rintro e w' ⟨rfl, rfl⟩)
    | (go_at_call 14; refine (after_any _ _ _).mono ?_; rintro e w' ⟨rfl, rfl⟩))
  go_ret
  exact ⟨rfl, Up.refl _⟩

/-- The same contracts, the answer told by an equation. -/
theorem number_is {v n k : Int} (e : v % n = k) (h : 0 < n) (hn : n < 9223372036854775808) (w : World) :
    Calls Try.prog 16 #[.int .i64 v, .int .i64 n] w fun e w' => e = .returned (.int .i64 k) ∧ w = w' := e ▸ number_any v n w h hn
theorem round_is {c n r : Int} (e : roundN c n = r) (w : World) :
    Calls Try.prog 8 #[.int .i64 c, .int .i64 n] w fun e w' => e = .returned (.int .i64 r) ∧ w = w' := e ▸ round_any c n w
theorem alone_is {x n : Int} {b : Bool} (e : aloneB x n = b) (w : World) :
    Calls Try.prog 10 #[.int .i64 x, .int .i64 n] w fun e w' => e = .returned (.bool b) ∧ w = w' := e ▸ alone_any x n w
theorem fits2_is {x o n : Int} {b : Bool} (e : fits2B x o n = b) (w : World) :
    Calls Try.prog 12 #[.int .i64 x, .int .i64 o, .int .i64 n] w fun e w' => e = .returned (.bool b) ∧ w = w' := e ▸ fits2_any x o n w
theorem after_is {x n r : Int} (e : afterN x n = r) (w : World) :
    Calls Try.prog 14 #[.int .i64 x, .int .i64 n] w fun e w' => e = .returned (.int .i64 r) ∧ w = w' := e ▸ after_any x n w
end Go.Proofs.Ytgflhbemfdehlaa
