/-
  What the statements of layer 1 share: the call of 'first'.
-/
import Derived.Test.YtkplikhhdhnjkaaBits
namespace Go.Proofs.Ytkplikhhdhnjkaa
open W64 Go.RowKit

theorem put_first (w : World) :
    Calls Try.prog 9 #[.int .u64 0, .int .i64 4, .int .i64 8, .int .u64 255] w fun e w' => e = .returned (.tuple #[.int .u64 4080, .bool true]) ∧ ∃ m, w' = w.drewN m :=
  put_yes 0#64 4 8 255#64 w (by decide)
theorem get_first (w : World) :
    Calls Try.prog 15 #[.int .u64 4080, .int .i64 8, .int .i64 4] w fun e w' => e = .returned (.int .u64 15) ∧ ∃ m, w' = w.drewN m :=
  get_any 4080#64 8 4 w
theorem mask_first (w : World) :
    Calls Try.prog 11 #[.int .i64 3] w fun e w' => e = .returned (.int .u64 7) ∧ w = w' :=
  mask_any 3 w

set_option maxHeartbeats 400000 in
theorem first_any (w : World) :
    Calls Try.prog 8 #[] w fun e w' => e = .returned (.bool true) ∧ ∃ m, w' = w.drewN m := by
  go_enter Try.func8, Try.ntmps8
  go_wp2_with (first
    | (go_at_call 9; refine (put_first _).mono ?_; rintro e w' ⟨rfl, m1, rfl⟩)
    | (go_at_call 15; refine (get_first _).mono ?_; rintro e w' ⟨rfl, m2, rfl⟩)
    | (go_at_call 11; refine (mask_first _).mono ?_; rintro e w' ⟨rfl, rfl⟩))
  go_ret
  exact ⟨rfl, _, rfl⟩

theorem fits_at (z : Int) (v : BitVec 64) (hz : z = U v) (n : Int) (w : World) :
    Calls Try.prog 13 #[.int .u64 z, .int .i64 n] w fun e w' => e = .returned (.bool (fitsB v n)) ∧ w = w' := by
  subst hz; exact fits_any v n w
theorem get_at (z : Int) (x : BitVec 64) (hz : z = U x) (a n : Int) (w : World) :
    Calls Try.prog 15 #[.int .u64 z, .int .i64 a, .int .i64 n] w fun e w' => e = .returned (.int .u64 (U (getW x a n))) ∧ ∃ m, w' = w.drewN m := by
  subst hz; exact get_any x a n w
theorem put_at_yes (z u : Int) (x v : BitVec 64) (hz : z = U x) (hu : u = U v) (a n : Int) (w : World) (h : putB a n v = true) :
    Calls Try.prog 9 #[.int .u64 z, .int .i64 a, .int .i64 n, .int .u64 u] w fun e w' => e = .returned (.tuple #[.int .u64 (U (putV x a n v)), .bool true]) ∧ ∃ m, w' = w.drewN m := by
  subst hz; subst hu; exact put_yes x a n v w h
theorem put_at_no (z u : Int) (x v : BitVec 64) (hz : z = U x) (hu : u = U v) (a n : Int) (w : World) (h : putB a n v = false) :
    Calls Try.prog 9 #[.int .u64 z, .int .i64 a, .int .i64 n, .int .u64 u] w fun e w' => e = .returned (.tuple #[.int .u64 0, .bool false]) ∧ w = w' := by
  subst hz; subst hu; exact put_no x a n v w h

theorem grown_drewN (w : World) (m : Nat) : Grown w (w.drewN m) := by
  induction m generalizing w with
  | zero => exact Grown.refl _
  | succ n ih => exact ih w.drew
end Go.Proofs.Ytkplikhhdhnjkaa
