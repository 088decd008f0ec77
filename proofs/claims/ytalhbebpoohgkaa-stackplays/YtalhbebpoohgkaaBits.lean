/-
  The contracts of package bits.
-/
import Derived.Test.YtalhbebpoohgkaaRows
import Derived.Test.YtalhbebpoohgkaaBitsMath
import Derived.Test.YtalhbebpoohgkaaNum
import Derived.WalkKit
import Derived.ProofKit
import Derived.Deep.QuietTactic
import Derived.BigQuiet
import Derived.Lib.Hide
namespace Go.Proofs.Ytalhbebpoohgkaa
open W64

theorem mask_hi {n : Int} (h : 64 < n) : IntKind.u64.wrap (IntKind.u64.wrap 18446744073709551616 - 1) = U (mask n) := by
  have e : cutW n = 64 := by unfold cutW; rw [if_neg (by omega), if_pos h]
  unfold U; rw [mask_toNat, e]; rfl
theorem mask_lo {n : Int} (h : n < 0) : IntKind.u64.wrap (IntKind.u64.wrap 1 - 1) = U (mask n) := by
  have e : cutW n = 0 := by unfold cutW; rw [if_pos h]
  unfold U; rw [mask_toNat, e]; rfl
theorem mask_mid {n : Int} (h0 : 0 ≤ n) (h1 : n ≤ 64) : IntKind.u64.wrap (IntKind.u64.wrap (2 ^ n.toNat) - 1) = U (mask n) := by
  have h := shl_U 1#64 n.toNat
  have e1 : U 1#64 = 1 := rfl
  rw [e1, Int.one_mul] at h
  rw [h, ← e1, sub_U]
  unfold mask; rw [cutW_in h0 h1]

set_option maxHeartbeats 400000 in
theorem mask_any (n : Int) (w : World) :
    Calls Try.prog 77 #[.int .i64 n] w fun e w' => e = .returned (.int .u64 (U (mask n))) ∧ w = w' := by
  by_cases h0 : n < 0
  · go_enter Try.func77, Try.ntmps77
    go_wp2
    go_ret
    exact ⟨ret_int (mask_lo h0), rfl⟩
  · by_cases h1 : 64 < n
    · go_enter Try.func77, Try.ntmps77
      go_wp2
      go_ret
      exact ⟨ret_int (mask_hi h1), rfl⟩
    · go_enter Try.func77, Try.ntmps77
      go_wp2
      go_ret
      exact ⟨ret_int (mask_mid (by omega) (by omega)), rfl⟩

set_option maxHeartbeats 400000 in
theorem isField_any (a n : Int) (w : World) :
    Calls Try.prog 75 #[.int .i64 a, .int .i64 n] w fun e w' => e = .returned (.bool (fieldB a n)) ∧ w = w' := by
  go_enter Try.func75, Try.ntmps75
  go_wp2
  all_goals
    go_ret
    refine ⟨ret_bool ?_, rfl⟩
    unfold fieldB
    simp [*]
  all_goals omega

set_option maxHeartbeats 400000 in
theorem fits_any (v : BitVec 64) (n : Int) (w : World) :
    Calls Try.prog 76 #[.int .u64 (U v), .int .i64 n] w fun e w' => e = .returned (.bool (fitsB v n)) ∧ w = w' := by
  go_enter Try.func76, Try.ntmps76
  go_wp2_with (go_at_call 77; refine (mask_any _ _).mono ?_; rintro e w' ⟨rfl, rfl⟩)
  go_ret
  refine ⟨ret_bool ?_, rfl⟩
  rw [andNot_U]
  exact U_beq _ 0#64

set_option maxHeartbeats 400000 in
theorem get_any (x : BitVec 64) (a n : Int) (w : World) :
    Calls Try.prog 78 #[.int .u64 (U x), .int .i64 a, .int .i64 n] w fun e w' => e = .returned (.int .u64 (U (getW x a n))) ∧ ∃ m, w' = w.drewN m := by
  by_cases hf : fieldB a n = true
  · obtain ⟨h0, h1, h2, h3⟩ := fieldB_iff.1 hf
    go_enter Try.func78, Try.ntmps78
    go_wp2_with (go_at_call 75; refine (isField_any _ _ _).mono ?_; rintro e w' ⟨rfl, rfl⟩)
    go_quiet ((go_at_call 77; exact quiet_eq (mask_any _ _)))
    go_wp2
    go_ret
    refine ⟨ret_int ?_, nq, rfl⟩
    rw [shr_U, and_U]
    unfold getW; rw [hf]; rfl
  · have hf' : fieldB a n = false := by simpa using hf
    go_enter Try.func78, Try.ntmps78
    go_wp2_with (go_at_call 75; refine (isField_any _ _ _).mono ?_; rintro e w' ⟨rfl, rfl⟩)
    go_ret
    refine ⟨ret_int ?_, 0, rfl⟩
    unfold getW; rw [hf']; rfl


set_option maxHeartbeats 400000 in
theorem put_no (x : BitVec 64) (a n : Int) (v : BitVec 64) (w : World) (h : putB a n v = false) :
    Calls Try.prog 68 #[.int .u64 (U x), .int .i64 a, .int .i64 n, .int .u64 (U v)] w fun e w' => e = .returned (.tuple #[.int .u64 0, .bool false]) ∧ w = w' := by
  unfold putB at h
  by_cases hf : fieldB a n = true
  · have hv : fitsB v n = false := by simpa [hf] using h
    clear h
    go_enter Try.func68, Try.ntmps68
    go_wp2_with (first
      | (go_at_call 75; refine (isField_any _ _ _).mono ?_; rintro e w' ⟨rfl, rfl⟩)
      | (go_at_call 76; refine (fits_any _ _ _).mono ?_; rintro e w' ⟨rfl, rfl⟩))
    go_ret2
    exact ⟨rfl, rfl⟩
  · have hf' : fieldB a n = false := by simpa using hf
    clear h hf
    go_enter Try.func68, Try.ntmps68
    go_wp2_with (first
      | (go_at_call 75; refine (isField_any _ _ _).mono ?_; rintro e w' ⟨rfl, rfl⟩)
      | (go_at_call 76; refine (fits_any _ _ _).mono ?_; rintro e w' ⟨rfl, rfl⟩))
    go_ret2
    exact ⟨rfl, rfl⟩

set_option maxHeartbeats 400000 in
theorem put_yes (x : BitVec 64) (a n : Int) (v : BitVec 64) (w : World) (h : putB a n v = true) :
    Calls Try.prog 68 #[.int .u64 (U x), .int .i64 a, .int .i64 n, .int .u64 (U v)] w fun e w' => e = .returned (.tuple #[.int .u64 (U (putV x a n v)), .bool true]) ∧ ∃ m, w' = w.drewN m := by
  unfold putB at h
  rw [Bool.and_eq_true] at h
  obtain ⟨hf, hv⟩ := h
  obtain ⟨h0, h1, h2, h3⟩ := fieldB_iff.1 hf
  go_enter Try.func68, Try.ntmps68
  go_wp2_with (first
    | (go_at_call 75; refine (isField_any _ _ _).mono ?_; rintro e w' ⟨rfl, rfl⟩)
    | (go_at_call 76; refine (fits_any _ _ _).mono ?_; rintro e w' ⟨rfl, rfl⟩))
  go_quiet ((go_at_call 77; exact quiet_eq (mask_any _ _)))
  go_wp2
  go_ret2
  refine ⟨ret_two ?_, nq, rfl⟩
  rw [shl_U, shl_U, andNot_U, or_U]
  rfl

end Go.Proofs.Ytalhbebpoohgkaa
