/-
  The contracts of the document's own answers about sizes (rundaleref1, P3.1).
-/
import Derived.Test.YtgflhbemfdehlaaSize
import Derived.LoopTactic
namespace Go.Proofs.Ytgflhbemfdehlaa
open Go.RowKit

set_option maxHeartbeats 400000 in
theorem in_any (v a b : Int) (w : World) :
    Calls Try.prog 17 #[.int .i64 v, .int .i64 a, .int .i64 b] w fun e w' => e = .returned (.bool (decide (a ≤ v ∧ v ≤ b))) ∧ w = w' := by
  go_enter Try.func17, Try.ntmps17
  go_wp2
  all_goals
    go_ret
    refine ⟨ret_bool ?_, rfl⟩
    simp [*]
  all_goals omega

set_option maxHeartbeats 400000 in
theorem rright_any (x n : Int) (w : World) :
    Calls Try.prog 19 #[.int .i64 x, .int .i64 n] w fun e w' => e = .returned (.bool (rightB x n)) ∧ w = w' := by
  by_cases h : 1 ≤ x ∧ x ≤ 1024
  all_goals
    go_enter Try.func19, Try.ntmps19
    go_wp2_with (go_at_call 17; refine (in_any _ _ _ _).mono ?_; rintro e w' ⟨rfl, rfl⟩)
    go_ret
    refine ⟨ret_bool ?_, rfl⟩
    rw [Bool.eq_iff_iff, rightB_iff]
    simp
    omega

set_option maxHeartbeats 400000 in
theorem ralone_any (x n : Int) (w : World) :
    Calls Try.prog 11 #[.int .i64 x, .int .i64 n] w fun e w' => e = .returned (.bool (aloneB x n)) ∧ w = w' := by
  cases hr : rightB x n
  · go_enter Try.func11, Try.ntmps11
    go_wp2_with (go_at_call 19; refine (rright_any _ _ _).mono ?_; rintro e w' ⟨rfl, rfl⟩)
    go_ret
    exact ⟨ret_bool (by unfold aloneB; rw [hr]; rfl), rfl⟩
  · obtain ⟨h0, h1, h2⟩ := rightB_iff.1 hr
    go_enter Try.func11, Try.ntmps11
    go_wp2_with (go_at_call 19; refine (rright_any _ _ _).mono ?_; rintro e w' ⟨rfl, rfl⟩)
    go_ret
    exact ⟨ret_bool (by unfold aloneB; rw [hr]; rfl), rfl⟩

set_option maxHeartbeats 400000 in
theorem rfits2_any (x o n : Int) (w : World) :
    Calls Try.prog 13 #[.int .i64 x, .int .i64 o, .int .i64 n] w fun e w' => e = .returned (.bool (fits2B x o n)) ∧ w = w' := by
  cases hr : rightB x n
  · go_enter Try.func13, Try.ntmps13
    go_wp2_with (go_at_call 19; refine (rright_any _ _ _).mono ?_; rintro e w' ⟨rfl, rfl⟩)
    go_ret
    exact ⟨ret_bool (by unfold fits2B; rw [hr]; rfl), rfl⟩
  · cases ha : aloneB x n
    · obtain ⟨h0, h1, h2⟩ := rightB_iff.1 hr
      go_enter Try.func13, Try.ntmps13
      go_wp2_with (first
        | (go_at_call 19; refine (rright_any _ _ _).mono ?_; rintro e w' ⟨rfl, rfl⟩)
        | (go_at_call 11; refine (ralone_any _ _ _).mono ?_; rintro e w' ⟨rfl, rfl⟩))
      all_goals
        go_ret
        refine ⟨ret_bool ?_, rfl⟩
        unfold fits2B
        rw [hr, ha]
        simp [*]
      all_goals omega
    · go_enter Try.func13, Try.ntmps13
      go_wp2_with (first
        | (go_at_call 19; refine (rright_any _ _ _).mono ?_; rintro e w' ⟨rfl, rfl⟩)
        | (go_at_call 11; refine (ralone_any _ _ _).mono ?_; rintro e w' ⟨rfl, rfl⟩))
      go_ret
      exact ⟨ret_bool (by unfold fits2B; rw [hr, ha]; rfl), rfl⟩

set_option maxHeartbeats 400000 in
theorem rafter_any (x n : Int) (w : World) :
    Calls Try.prog 15 #[.int .i64 x, .int .i64 n] w fun e w' => e = .returned (.int .i64 (afterN x n)) ∧ w = w' := by
  cases hr : rightB x n
  · go_enter Try.func15, Try.ntmps15
    go_wp2_with (go_at_call 19; refine (rright_any _ _ _).mono ?_; rintro e w' ⟨rfl, rfl⟩)
    go_ret
    exact ⟨ret_int (by unfold afterN; rw [hr]; rfl), rfl⟩
  · cases ha : aloneB x n
    all_goals
      go_enter Try.func15, Try.ntmps15
      go_wp2_with (first
        | (go_at_call 19; refine (rright_any _ _ _).mono ?_; rintro e w' ⟨rfl, rfl⟩)
        | (go_at_call 11; refine (ralone_any _ _ _).mono ?_; rintro e w' ⟨rfl, rfl⟩))
      go_ret
      exact ⟨ret_int (by unfold afterN; rw [hr, ha]; rfl), rfl⟩

/-- The step behind so many doublings. -/
theorem stepN_more {k : Int} (h0 : 0 ≤ k) (h1 : k < 3) : 2 * stepN k = stepN (k + 1) := by
  rcases stepN_cases k with ⟨_, e⟩ | ⟨_, e⟩ | ⟨_, e⟩ | ⟨_, e⟩ <;> rcases stepN_cases (k + 1) with ⟨_, f⟩ | ⟨_, f⟩ | ⟨_, f⟩ | ⟨_, f⟩ <;> omega
theorem stepN_last {k c : Int} (h0 : 0 ≤ k) (h1 : k ≤ 3) (h2 : k ≤ c ∨ k = 0) (h : c ≤ k ∨ 3 ≤ k) : stepN k = stepN c := by
  rcases stepN_cases k with ⟨_, e⟩ | ⟨_, e⟩ | ⟨_, e⟩ | ⟨_, e⟩ <;> rcases stepN_cases c with ⟨_, f⟩ | ⟨_, f⟩ | ⟨_, f⟩ | ⟨_, f⟩ <;> omega
theorem stepN_in (c : Int) : 1 ≤ stepN c ∧ stepN c ≤ 8 := by
  rcases stepN_cases c with ⟨_, e⟩ | ⟨_, e⟩ | ⟨_, e⟩ | ⟨_, e⟩ <;> omega
/-- The least multiple from n on is that from one more on, unless n is one. -/
theorem round_at {c m n : Int} (h0 : 1 ≤ n) (h1 : n ≤ m) (h2 : m ≤ roundN c n) (hn : n ≤ 1024) (h : m % stepN c = 0) : m = roundN c n := by
  rw [roundN_in h0 hn] at h2 ⊢
  rcases stepN_cases c with ⟨_, e⟩ | ⟨_, e⟩ | ⟨_, e⟩ | ⟨_, e⟩ <;> rw [e] at h h2 ⊢ <;> omega
theorem round_more {c m n : Int} (h0 : 1 ≤ n) (h1 : n ≤ m) (h2 : m ≤ roundN c n) (hn : n ≤ 1024) (h : ¬ m % stepN c = 0) : m + 1 ≤ roundN c n := by
  rw [roundN_in h0 hn] at h2 ⊢
  rcases stepN_cases c with ⟨_, e⟩ | ⟨_, e⟩ | ⟨_, e⟩ | ⟨_, e⟩ <;> rw [e] at h h2 ⊢ <;> omega
theorem round_from {c n : Int} (h0 : 1 ≤ n) (hn : n ≤ 1024) : n ≤ roundN c n ∧ roundN c n ≤ 1031 := by
  rw [roundN_in h0 hn]
  rcases stepN_cases c with ⟨_, e⟩ | ⟨_, e⟩ | ⟨_, e⟩ | ⟨_, e⟩ <;> rw [e] <;> omega

set_option maxHeartbeats 1000000 in
theorem rround_any (c n : Int) (w : World) :
    Calls Try.prog 9 #[.int .i64 c, .int .i64 n] w fun e w' => e = .returned (.int .i64 (roundN c n)) ∧ w = w' := by
  by_cases h : 1 ≤ n ∧ n ≤ 1024
  · obtain ⟨h0, h1⟩ := h
    go_enter Try.func9, Try.ntmps9
    go_wp2_with (go_at_call 17; refine (in_any _ _ _ _).mono ?_; rintro e w' ⟨rfl, rfl⟩)
    go_loop [5, 6] (fun u i => ∃ k : Int, 0 ≤ k ∧ k ≤ 3 ∧ (k ≤ c ∨ k = 0) ∧ i = .int .i64 k ∧ u = .int .i64 (stepN k)) (fun _ i => 3 - (intOf i).toNat)
    case atStart => exact ⟨0, by omega, by omega, .inr rfl, rfl, rfl⟩
    case round =>
      obtain ⟨k, k0, k3, kc, rfl, rfl⟩ := hrel
      have st := stepN_in k
      by_cases hlt : k < c ∧ k < 3
      · obtain ⟨i0, i1⟩ := hlt
        have H := Lib.hid (stepN_more k0 i1)
        go_wp2
        go_round
        case rel => exact ⟨k + 1, by omega, by omega, .inl (by omega), by go_num, by rw [H.out]⟩
        case measure => simp [intOf]; omega
      · have H := stepN_last k0 k3 kc (by omega)
        rw [H] at st ⊢
        clear H
        have hb := round_from (c := c) h0 h1
        obtain ⟨s0, s8⟩ := st
        by_cases hkc : k < c
        all_goals
          have hk3 : c ≤ k ∨ 3 ≤ k := by omega
          clear hlt
          go_wp2
          clear k0 k3 kc hk3
          go_loop [1] (fun v => ∃ m : Int, n ≤ m ∧ m ≤ roundN c n ∧ v = .int .i64 m) (fun v => 1031 - (intOf v).toNat)
          case atStart => exact ⟨n, by omega, by omega, rfl⟩
          case round =>
            obtain ⟨m, m0, m1, rfl⟩ := hrel
            have m2 : m ≤ 1031 := by omega
            have m3 : 0 ≤ m := by omega
            by_cases hz : m % stepN c = 0
            · have H := Lib.hid (round_at h0 m0 m1 h1 hz)
              go_wp2
              go_ret
              exact ⟨ret_int H.out, rfl⟩
            · have H := round_more h0 m0 m1 h1 hz
              go_wp2
              go_round
              case rel => exact ⟨m + 1, by omega, by omega, by go_num⟩
              case measure => simp [intOf]; omega
  · have h' : n < 1 ∨ 1024 < n := by omega
    rw [roundN_out h']
    go_enter Try.func9, Try.ntmps9
    go_wp2_with (go_at_call 17; refine (in_any _ _ _ _).mono ?_; rintro e w' ⟨rfl, rfl⟩)
    go_ret
    exact ⟨rfl, rfl⟩
end Go.Proofs.Ytgflhbemfdehlaa
