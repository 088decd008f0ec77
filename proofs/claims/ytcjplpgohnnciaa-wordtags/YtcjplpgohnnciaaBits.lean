/-
  The contracts of package bits.
-/
import Derived.Test.YtcjplpgohnnciaaRows
import Derived.Test.YtcjplpgohnnciaaBitsMath
import Derived.WalkKit
import Derived.ProofKit
import Derived.Deep.QuietTactic
import Derived.BigQuiet
import Derived.Lib.Hide
namespace Go.Proofs.Ytcjplpgohnnciaa
open W64

theorem ret_int {k : IntKind} {a b : Int} (h : a = b) : Ending.returned (.int k a) = .returned (.int k b) := by rw [h]
theorem ret_bool {a b : Bool} (h : a = b) : Ending.returned (.bool a) = .returned (.bool b) := by rw [h]

theorem ret_two {k : IntKind} {a b : Int} {c : Bool} (h : a = b) : Ending.returned (.tuple #[.int k a, .bool c]) = .returned (.tuple #[.int k b, .bool c]) := by rw [h]
theorem quiet_eq {P : Program} {f : FuncId} {args : Array Value} {w : World} {n : Nat} {v : Value}
    (h : Calls P f args (w.drewN n) fun e w' => e = .returned v ∧ w.drewN n = w') : Calls P f args (w.drewN n) fun e w'' => e = .returned v ∧ ∃ m, w'' = w.drewN m :=
  h.mono fun _ _ ⟨he, hm⟩ => ⟨he, n, hm.symm⟩

theorem number_neg (v n : Int) (h : 0 < n) (h1 : v.tmod n < 0) : v.tmod n + n = v % n := by
  have a := Int.tmod_eq_emod (a := v) (b := n)
  have b := Int.emod_nonneg v (show n ≠ 0 by omega)
  split at a
  · omega
  · have : (n.natAbs : Int) = n := by omega
    omega
theorem number_pos (v n : Int) (h : 0 < n) (h1 : 0 ≤ v.tmod n) : v.tmod n = v % n := by
  have a := Int.tmod_eq_emod (a := v) (b := n)
  have b := Int.emod_lt_of_pos v h
  split at a
  · omega
  · have : (n.natAbs : Int) = n := by omega
    omega
theorem wrap64_in {n : Int} (h0 : -9223372036854775808 ≤ n) (h1 : n < 9223372036854775808) : RowKit.wrap64 n = n := by
  unfold RowKit.wrap64; omega
theorem mask_hi {n : Int} (h : 64 < n) : IntKind.u64.wrap (IntKind.u64.wrap 18446744073709551616 - 1) = U (mask n) := by
  have e : cutW n = 64 := by unfold cutW; rw [if_neg (by omega), if_pos h]
  unfold U; rw [mask_toNat, e]; rfl
theorem mask_lo {n : Int} (h : n < 0) : IntKind.u64.wrap (IntKind.u64.wrap 1 - 1) = U (mask n) := by
  have e : cutW n = 0 := by unfold cutW; rw [if_pos h]
  unfold U; rw [mask_toNat, e]; rfl
theorem mask_mid {n : Int} (h0 : 0 ≤ n) (h1 : n ≤ 64) : IntKind.u64.wrap (IntKind.u64.wrap (2 ^ n.toNat) - 1) = U (mask n) := by
  have h := shl_U 1#64 n.toNat
  have e1 : U 1#64 = 1 := rfl
  rw [e1, Int.one_mul] at h
  rw [h, ← e1, sub_U]
  unfold mask; rw [cutW_in h0 h1]

set_option maxHeartbeats 400000 in
theorem mask_any (n : Int) (w : World) :
    Calls Try.prog 36 #[.int .i64 n] w fun e w' => e = .returned (.int .u64 (U (mask n))) ∧ w = w' := by
  by_cases h0 : n < 0
  · go_enter Try.func36, Try.ntmps36
    go_wp2
    go_ret
    exact ⟨ret_int (mask_lo h0), rfl⟩
  · by_cases h1 : 64 < n
    · go_enter Try.func36, Try.ntmps36
      go_wp2
      go_ret
      exact ⟨ret_int (mask_hi h1), rfl⟩
    · go_enter Try.func36, Try.ntmps36
      go_wp2
      go_ret
      exact ⟨ret_int (mask_mid (by omega) (by omega)), rfl⟩

set_option maxHeartbeats 400000 in
theorem isField_any (a n : Int) (w : World) :
    Calls Try.prog 34 #[.int .i64 a, .int .i64 n] w fun e w' => e = .returned (.bool (fieldB a n)) ∧ w = w' := by
  go_enter Try.func34, Try.ntmps34
  go_wp2
  all_goals
    go_ret
    refine ⟨ret_bool ?_, rfl⟩
    unfold fieldB
    simp [*]
  all_goals omega

set_option maxHeartbeats 400000 in
theorem fits_any (v : BitVec 64) (n : Int) (w : World) :
    Calls Try.prog 35 #[.int .u64 (U v), .int .i64 n] w fun e w' => e = .returned (.bool (fitsB v n)) ∧ w = w' := by
  go_enter Try.func35, Try.ntmps35
  go_wp2_with (go_at_call 36; refine (mask_any _ _).mono ?_; rintro e w' ⟨rfl, rfl⟩)
  go_ret
  refine ⟨ret_bool ?_, rfl⟩
  rw [andNot_U]
  exact U_beq _ 0#64

set_option maxHeartbeats 400000 in
theorem get_any (x : BitVec 64) (a n : Int) (w : World) :
    Calls Try.prog 33 #[.int .u64 (U x), .int .i64 a, .int .i64 n] w fun e w' => e = .returned (.int .u64 (U (getW x a n))) ∧ ∃ m, w' = w.drewN m := by
  by_cases hf : fieldB a n = true
  · obtain ⟨h0, h1, h2, h3⟩ := fieldB_iff.1 hf
    go_enter Try.func33, Try.ntmps33
    go_wp2_with (go_at_call 34; refine (isField_any _ _ _).mono ?_; rintro e w' ⟨rfl, rfl⟩)
    go_quiet ((go_at_call 36; exact quiet_eq (mask_any _ _)))
    go_wp2
    go_ret
    refine ⟨ret_int ?_, nq, rfl⟩
    rw [shr_U, and_U]
    unfold getW; rw [hf]; rfl
  · have hf' : fieldB a n = false := by simpa using hf
    go_enter Try.func33, Try.ntmps33
    go_wp2_with (go_at_call 34; refine (isField_any _ _ _).mono ?_; rintro e w' ⟨rfl, rfl⟩)
    go_ret
    refine ⟨ret_int ?_, 0, rfl⟩
    unfold getW; rw [hf']; rfl


set_option maxHeartbeats 400000 in
theorem put_no (x : BitVec 64) (a n : Int) (v : BitVec 64) (w : World) (h : putB a n v = false) :
    Calls Try.prog 32 #[.int .u64 (U x), .int .i64 a, .int .i64 n, .int .u64 (U v)] w fun e w' => e = .returned (.tuple #[.int .u64 0, .bool false]) ∧ w = w' := by
  unfold putB at h
  by_cases hf : fieldB a n = true
  · have hv : fitsB v n = false := by simpa [hf] using h
    clear h
    go_enter Try.func32, Try.ntmps32
    go_wp2_with (first
      | (go_at_call 34; refine (isField_any _ _ _).mono ?_; rintro e w' ⟨rfl, rfl⟩)
      | (go_at_call 35; refine (fits_any _ _ _).mono ?_; rintro e w' ⟨rfl, rfl⟩))
    go_ret2
    exact ⟨rfl, rfl⟩
  · have hf' : fieldB a n = false := by simpa using hf
    clear h hf
    go_enter Try.func32, Try.ntmps32
    go_wp2_with (first
      | (go_at_call 34; refine (isField_any _ _ _).mono ?_; rintro e w' ⟨rfl, rfl⟩)
      | (go_at_call 35; refine (fits_any _ _ _).mono ?_; rintro e w' ⟨rfl, rfl⟩))
    go_ret2
    exact ⟨rfl, rfl⟩

set_option maxHeartbeats 400000 in
theorem put_yes (x : BitVec 64) (a n : Int) (v : BitVec 64) (w : World) (h : putB a n v = true) :
    Calls Try.prog 32 #[.int .u64 (U x), .int .i64 a, .int .i64 n, .int .u64 (U v)] w fun e w' => e = .returned (.tuple #[.int .u64 (U (putV x a n v)), .bool true]) ∧ ∃ m, w' = w.drewN m := by
  unfold putB at h
  rw [Bool.and_eq_true] at h
  obtain ⟨hf, hv⟩ := h
  obtain ⟨h0, h1, h2, h3⟩ := fieldB_iff.1 hf
  go_enter Try.func32, Try.ntmps32
  go_wp2_with (first
    | (go_at_call 34; refine (isField_any _ _ _).mono ?_; rintro e w' ⟨rfl, rfl⟩)
    | (go_at_call 35; refine (fits_any _ _ _).mono ?_; rintro e w' ⟨rfl, rfl⟩))
  go_quiet ((go_at_call 36; exact quiet_eq (mask_any _ _)))
  go_wp2
  go_ret2
  refine ⟨ret_two ?_, nq, rfl⟩
  rw [shl_U, shl_U, andNot_U, or_U]
  rfl

set_option maxHeartbeats 400000 in
theorem number_any (v n : Int) (w : World) (h : 0 < n) (hn : n < 9223372036854775808) :
    Calls Try.prog 27 #[.int .i64 v, .int .i64 n] w fun e w' => e = .returned (.int .i64 (v % n)) ∧ w = w' := by
  go_enter Try.func27, Try.ntmps27
  go_wp2
  all_goals
    go_ret
    refine ⟨ret_int ?_, rfl⟩
  · have h1 := Int.tmod_lt_of_pos v h
    have h2 := number_neg v n h ‹_›
    have h3 := Int.emod_nonneg v (show n ≠ 0 by omega)
    rw [wrap64_in (by omega) (by omega)]
    exact h2
  · exact number_pos v n h ‹_›
end Go.Proofs.Ytcjplpgohnnciaa
