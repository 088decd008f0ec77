/-
  The contracts of the document's own answers about heads, roots and pins (rundaleref1), in the words of package word's.
-/
import Derived.Test.YtngaokhlcdlpfaaWord
namespace Go.Proofs.Ytngaokhlcdlpfaa
open W64 Go.RowKit

set_option maxHeartbeats 400000 in
theorem rin_any (n a b : Int) (w : World) :
    Calls Try.prog 58 #[.int .i64 n, .int .i64 a, .int .i64 b] w fun e w' => e = .returned (.bool (inB n a b)) ∧ w = w' := by
  go_enter Try.func58, Try.ntmps58
  go_wp2
  all_goals
    go_ret
    refine ⟨ret_bool ?_, rfl⟩
    unfold inB
    simp [*]
  all_goals omega

set_option maxHeartbeats 400000 in
theorem rputPin_yes (p : Int) (w : World) (h : pinB p = true) :
    Calls Try.prog 50 #[.int .i64 p] w fun e w' => e = .returned (.tuple #[.int .u64 (pinN p), .bool true]) ∧ w = w' := by
  unfold pinB at h
  obtain ⟨h0, h1⟩ := inB_iff.1 h
  go_enter Try.func50, Try.ntmps50
  go_wp2_with (go_at_call 58; refine (rin_any _ _ _ _).mono ?_; rintro e w' ⟨rfl, rfl⟩)
  go_ret2
  exact ⟨rfl, rfl⟩

set_option maxHeartbeats 400000 in
theorem rputPin_no (p : Int) (w : World) (h : pinB p = false) :
    Calls Try.prog 50 #[.int .i64 p] w fun e w' => e = .returned (.tuple #[.int .u64 0, .bool false]) ∧ w = w' := by
  unfold pinB at h
  go_enter Try.func50, Try.ntmps50
  go_wp2_with (go_at_call 58; refine (rin_any _ _ _ _).mono ?_; rintro e w' ⟨rfl, rfl⟩)
  go_ret2
  exact ⟨rfl, rfl⟩

set_option maxHeartbeats 400000 in
theorem rgetPin_odd (x : Int) (w : World) (h0 : 0 ≤ x) (h1 : x < 18446744073709551616) (h : x % 2 = 1) :
    Calls Try.prog 16 #[.int .u64 x] w fun e w' => e = .returned (.tuple #[.int .i64 (x / 2), .bool true]) ∧ w = w' := by
  go_enter Try.func16, Try.ntmps16
  go_wp2
  go_ret2
  exact ⟨rfl, rfl⟩

set_option maxHeartbeats 400000 in
theorem rgetPin_even (x : Int) (w : World) (h0 : 0 ≤ x) (h1 : x < 18446744073709551616) (h : x % 2 = 0) :
    Calls Try.prog 16 #[.int .u64 x] w fun e w' => e = .returned (.tuple #[.int .i64 0, .bool false]) ∧ w = w' := by
  go_enter Try.func16, Try.ntmps16
  go_wp2
  go_ret2
  exact ⟨rfl, rfl⟩
theorem rputPin_any (p : Int) (w : World) :
    Calls Try.prog 50 #[.int .i64 p] w fun e w' => e = .returned (.tuple #[.int .u64 (pinV p), .bool (pinB p)]) ∧ w = w' := by
  unfold pinV
  cases h : pinB p
  · exact rputPin_no p w h
  · exact rputPin_yes p w h
theorem rgetPin_any (x : Int) (w : World) (h0 : 0 ≤ x) (h1 : x < 18446744073709551616) :
    Calls Try.prog 16 #[.int .u64 x] w fun e w' => e = .returned (.tuple #[.int .i64 (pinE x), .bool (pinO x)]) ∧ w = w' := by
  unfold pinE
  by_cases h : x % 2 = 1
  · have e : pinO x = true := by unfold pinO; exact decide_eq_true h
    rw [e]; exact rgetPin_odd x w h0 h1 h
  · have e : pinO x = false := by unfold pinO; exact decide_eq_false h
    rw [e]; exact rgetPin_even x w h0 h1 (by omega)
end Go.Proofs.Ytngaokhlcdlpfaa
