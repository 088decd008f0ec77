/-
  The contracts of package size.
-/
import Derived.Test.YtgflhbemfdehlaaNum
import Derived.Test.YtgflhbemfdehlaaSizeMath
import Derived.Test.YtgflhbemfdehlaaBase
namespace Go.Proofs.Ytgflhbemfdehlaa
open Go.RowKit

set_option maxHeartbeats 400000 in
theorem isRight_any (x n : Int) (w : World) :
    Calls Try.prog 18 #[.int .i64 x, .int .i64 n] w fun e w' => e = .returned (.bool (rightB x n)) ∧ w = w' := by
  go_enter Try.func18, Try.ntmps18
  go_wp2
  all_goals
    go_ret
    refine ⟨ret_bool ?_, rfl⟩
    unfold rightB
    simp [*]
  all_goals omega

set_option maxHeartbeats 400000 in
theorem alone_any (x n : Int) (w : World) :
    Calls Try.prog 10 #[.int .i64 x, .int .i64 n] w fun e w' => e = .returned (.bool (aloneB x n)) ∧ w = w' := by
  cases hr : rightB x n
  · go_enter Try.func10, Try.ntmps10
    go_wp2_with (go_at_call 18; refine (isRight_any _ _ _).mono ?_; rintro e w' ⟨rfl, rfl⟩)
    go_ret
    exact ⟨ret_bool (by unfold aloneB; rw [hr]; rfl), rfl⟩
  · obtain ⟨h0, h1, h2⟩ := rightB_iff.1 hr
    go_enter Try.func10, Try.ntmps10
    go_wp2_with (go_at_call 18; refine (isRight_any _ _ _).mono ?_; rintro e w' ⟨rfl, rfl⟩)
    go_ret
    exact ⟨ret_bool (by unfold aloneB; rw [hr]; rfl), rfl⟩

set_option maxHeartbeats 400000 in
theorem fits2_any (x o n : Int) (w : World) :
    Calls Try.prog 12 #[.int .i64 x, .int .i64 o, .int .i64 n] w fun e w' => e = .returned (.bool (fits2B x o n)) ∧ w = w' := by
  cases hr : rightB x n
  · go_enter Try.func12, Try.ntmps12
    go_wp2_with (go_at_call 18; refine (isRight_any _ _ _).mono ?_; rintro e w' ⟨rfl, rfl⟩)
    go_ret
    exact ⟨ret_bool (by unfold fits2B; rw [hr]; rfl), rfl⟩
  · cases ha : aloneB x n
    · obtain ⟨h0, h1, h2⟩ := rightB_iff.1 hr
      go_enter Try.func12, Try.ntmps12
      go_wp2_with (first
        | (go_at_call 18; refine (isRight_any _ _ _).mono ?_; rintro e w' ⟨rfl, rfl⟩)
        | (go_at_call 10; refine (alone_any _ _ _).mono ?_; rintro e w' ⟨rfl, rfl⟩))
      all_goals
        go_ret
        refine ⟨ret_bool ?_, rfl⟩
        unfold fits2B
        rw [hr, ha]
        simp [*]
      all_goals omega
    · go_enter Try.func12, Try.ntmps12
      go_wp2_with (first
        | (go_at_call 18; refine (isRight_any _ _ _).mono ?_; rintro e w' ⟨rfl, rfl⟩)
        | (go_at_call 10; refine (alone_any _ _ _).mono ?_; rintro e w' ⟨rfl, rfl⟩))
      go_ret
      exact ⟨ret_bool (by unfold fits2B; rw [hr, ha]; rfl), rfl⟩

set_option maxHeartbeats 400000 in
theorem after_any (x n : Int) (w : World) :
    Calls Try.prog 14 #[.int .i64 x, .int .i64 n] w fun e w' => e = .returned (.int .i64 (afterN x n)) ∧ w = w' := by
  cases hr : rightB x n
  · go_enter Try.func14, Try.ntmps14
    go_wp2_with (go_at_call 18; refine (isRight_any _ _ _).mono ?_; rintro e w' ⟨rfl, rfl⟩)
    go_ret
    exact ⟨ret_int (by unfold afterN; rw [hr]; rfl), rfl⟩
  · cases ha : aloneB x n
    all_goals
      go_enter Try.func14, Try.ntmps14
      go_wp2_with (first
        | (go_at_call 18; refine (isRight_any _ _ _).mono ?_; rintro e w' ⟨rfl, rfl⟩)
        | (go_at_call 10; refine (alone_any _ _ _).mono ?_; rintro e w' ⟨rfl, rfl⟩))
      go_ret
      exact ⟨ret_int (by unfold afterN; rw [hr, ha]; rfl), rfl⟩

set_option maxHeartbeats 400000 in
theorem round_out (c n : Int) (h : n < 1 ∨ 1024 < n) (w : World) :
    Calls Try.prog 8 #[.int .i64 c, .int .i64 n] w fun e w' => e = .returned (.int .i64 0) ∧ w = w' := by
  rcases h with h | h
  all_goals
    go_enter Try.func8, Try.ntmps8
    go_wp2
    go_ret
    exact ⟨rfl, rfl⟩

set_option maxHeartbeats 400000 in
theorem round_lo (c n : Int) (h0 : 1 ≤ n) (h1 : n ≤ 1024) (hc : c < 0) (w : World) :
    Calls Try.prog 8 #[.int .i64 c, .int .i64 n] w fun e w' => e = .returned (.int .i64 n) ∧ w = w' := by
  go_enter Try.func8, Try.ntmps8
  go_wp2
  go_ret
  exact ⟨rfl, rfl⟩
set_option maxHeartbeats 400000 in
theorem round_0 (n : Int) (h0 : 1 ≤ n) (h1 : n ≤ 1024) (w : World) :
    Calls Try.prog 8 #[.int .i64 0, .int .i64 n] w fun e w' => e = .returned (.int .i64 n) ∧ w = w' := by
  go_enter Try.func8, Try.ntmps8
  go_wp2
  go_ret
  exact ⟨rfl, rfl⟩
set_option maxHeartbeats 400000 in
theorem round_1 (n : Int) (h0 : 1 ≤ n) (h1 : n ≤ 1024) (w : World) :
    Calls Try.prog 8 #[.int .i64 1, .int .i64 n] w fun e w' => e = .returned (.int .i64 ((n + 2 - 1) / 2 * 2)) ∧ w = w' := by
  go_enter Try.func8, Try.ntmps8
  go_wp2
  go_ret
  exact ⟨rfl, rfl⟩
set_option maxHeartbeats 400000 in
theorem round_2 (n : Int) (h0 : 1 ≤ n) (h1 : n ≤ 1024) (w : World) :
    Calls Try.prog 8 #[.int .i64 2, .int .i64 n] w fun e w' => e = .returned (.int .i64 ((n + 4 - 1) / 4 * 4)) ∧ w = w' := by
  go_enter Try.func8, Try.ntmps8
  go_wp2
  go_ret
  exact ⟨rfl, rfl⟩
set_option maxHeartbeats 400000 in
theorem round_3 (n : Int) (h0 : 1 ≤ n) (h1 : n ≤ 1024) (w : World) :
    Calls Try.prog 8 #[.int .i64 3, .int .i64 n] w fun e w' => e = .returned (.int .i64 ((n + 8 - 1) / 8 * 8)) ∧ w = w' := by
  go_enter Try.func8, Try.ntmps8
  go_wp2
  go_ret
  exact ⟨rfl, rfl⟩
set_option maxHeartbeats 400000 in
theorem round_hi (c n : Int) (h0 : 1 ≤ n) (h1 : n ≤ 1024) (_hc : 3 < c) (_hd : 0 ≤ c) (w : World) :
    Calls Try.prog 8 #[.int .i64 c, .int .i64 n] w fun e w' => e = .returned (.int .i64 ((n + 8 - 1) / 8 * 8)) ∧ w = w' := by
  go_enter Try.func8, Try.ntmps8
  go_wp2
  go_ret
  exact ⟨rfl, rfl⟩

theorem round_any (c n : Int) (w : World) :
    Calls Try.prog 8 #[.int .i64 c, .int .i64 n] w fun e w' => e = .returned (.int .i64 (roundN c n)) ∧ w = w' := by
  by_cases h : n < 1 ∨ 1024 < n
  · rw [roundN_out h]; exact round_out _ _ h _
  · have h0 : 1 ≤ n := by omega
    have h1 : n ≤ 1024 := by omega
    rw [roundN_in h0 h1]
    rcases stepN_cases c with ⟨hc, e⟩ | ⟨rfl, e⟩ | ⟨rfl, e⟩ | ⟨hc, e⟩
    · rw [e]
      have e1 : (n + 1 - 1) / 1 * 1 = n := by omega
      rw [e1]
      by_cases h2 : c < 0
      · exact round_lo _ _ h0 h1 h2 _
      · obtain rfl : c = 0 := by omega
        exact round_0 _ h0 h1 _
    · rw [e]; exact round_1 _ h0 h1 _
    · rw [e]; exact round_2 _ h0 h1 _
    · rw [e]
      by_cases h2 : 3 < c
      · exact round_hi _ _ h0 h1 h2 (by omega) _
      · obtain rfl : c = 3 := by omega
        exact round_3 _ h0 h1 _
end Go.Proofs.Ytgflhbemfdehlaa
