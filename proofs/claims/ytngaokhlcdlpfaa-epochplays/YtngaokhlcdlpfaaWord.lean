/-
  The contracts of package word: heads, roots, pins as plain numbers.
-/
import Derived.Test.YtngaokhlcdlpfaaBits
import Derived.Test.YtngaokhlcdlpfaaWordMath
import Derived.Test.YtngaokhlcdlpfaaBase
namespace Go.Proofs.Ytngaokhlcdlpfaa
open W64

set_option maxHeartbeats 400000 in
theorem within_any (n a b : Int) (w : World) :
    Calls Try.prog 47 #[.int .i64 n, .int .i64 a, .int .i64 b] w fun e w' => e = .returned (.bool (inB n a b)) ∧ w = w' := by
  go_enter Try.func47, Try.ntmps47
  go_wp2
  all_goals
    go_ret
    refine ⟨ret_bool ?_, rfl⟩
    unfold inB
    simp [*]
  all_goals omega

/-! ### Heads -/
theorem up_box (w : World) (o : Obj) (m : Nat) : Up w ((w.alloc o).drewN m) := (Up.alloc _ _).then_drewN m
theorem up_box2 (w : World) (o p : Obj) : Up w ((w.alloc o).alloc p) := (Up.alloc _ _).then_alloc _

/-! ### Roots -/
/-! ### Pins -/
set_option maxHeartbeats 400000 in
theorem putPin_yes (p : Int) (w : World) (h : pinB p = true) :
    Calls Try.prog 29 #[.int .i64 p] w fun e w' => e = .returned (.tuple #[.int .u64 (pinN p), .bool true]) ∧ w = w' := by
  unfold pinB at h
  obtain ⟨h0, h1⟩ := inB_iff.1 h
  go_enter Try.func29, Try.ntmps29
  go_wp2_with (go_at_call 47; refine (within_any _ _ _ _).mono ?_; rintro e w' ⟨rfl, rfl⟩)
  go_ret2
  exact ⟨rfl, rfl⟩

set_option maxHeartbeats 400000 in
theorem putPin_no (p : Int) (w : World) (h : pinB p = false) :
    Calls Try.prog 29 #[.int .i64 p] w fun e w' => e = .returned (.tuple #[.int .u64 0, .bool false]) ∧ w = w' := by
  unfold pinB at h
  go_enter Try.func29, Try.ntmps29
  go_wp2_with (go_at_call 47; refine (within_any _ _ _ _).mono ?_; rintro e w' ⟨rfl, rfl⟩)
  go_ret2
  exact ⟨rfl, rfl⟩

set_option maxHeartbeats 400000 in
theorem getPin_odd (x : Int) (w : World) (h0 : 0 ≤ x) (h1 : x < 18446744073709551616) (h : x % 2 = 1) :
    Calls Try.prog 40 #[.int .u64 x] w fun e w' => e = .returned (.tuple #[.int .i64 (x / 2), .bool true]) ∧ w = w' := by
  go_enter Try.func40, Try.ntmps40
  go_wp2
  go_ret2
  exact ⟨rfl, rfl⟩

set_option maxHeartbeats 400000 in
theorem getPin_even (x : Int) (w : World) (h0 : 0 ≤ x) (h1 : x < 18446744073709551616) (h : x % 2 = 0) :
    Calls Try.prog 40 #[.int .u64 x] w fun e w' => e = .returned (.tuple #[.int .i64 0, .bool false]) ∧ w = w' := by
  go_enter Try.func40, Try.ntmps40
  go_wp2
  go_ret2
  exact ⟨rfl, rfl⟩
theorem putPin_any (p : Int) (w : World) :
    Calls Try.prog 29 #[.int .i64 p] w fun e w' => e = .returned (.tuple #[.int .u64 (pinV p), .bool (pinB p)]) ∧ w = w' := by
  unfold pinV
  cases h : pinB p
  · exact putPin_no p w h
  · exact putPin_yes p w h
theorem getPin_any (x : Int) (w : World) (h0 : 0 ≤ x) (h1 : x < 18446744073709551616) :
    Calls Try.prog 40 #[.int .u64 x] w fun e w' => e = .returned (.tuple #[.int .i64 (pinE x), .bool (pinO x)]) ∧ w = w' := by
  unfold pinE
  by_cases h : x % 2 = 1
  · have e : pinO x = true := by unfold pinO; exact decide_eq_true h
    rw [e]; exact getPin_odd x w h0 h1 h
  · have e : pinO x = false := by unfold pinO; exact decide_eq_false h
    rw [e]; exact getPin_even x w h0 h1 (by omega)
end Go.Proofs.Ytngaokhlcdlpfaa
