/-
  The contracts of the document's own answers about fields (rundaleref1, P1.1).
-/
import Derived.Test.YtkplikhhdhnjkaaBits
namespace Go.Proofs.Ytkplikhhdhnjkaa
open W64 Go.RowKit

set_option maxHeartbeats 400000 in
theorem rmask_any (n : Int) (w : World) :
    Calls Try.prog 12 #[.int .i64 n] w fun e w' => e = .returned (.int .u64 (U (mask n))) ∧ w = w' := by
  by_cases h0 : n ≤ 0
  · go_enter Try.func12, Try.ntmps12
    go_wp2
    go_ret
    exact ⟨ret_int (mask_zero h0), rfl⟩
  · by_cases h1 : 64 ≤ n
    · go_enter Try.func12, Try.ntmps12
      go_wp2
      go_ret
      exact ⟨ret_int (mask_full h1), rfl⟩
    · go_enter Try.func12, Try.ntmps12
      go_wp2
      go_ret
      refine ⟨ret_int ?_, rfl⟩
      exact mask_mid (by omega) (by omega)

set_option maxHeartbeats 400000 in
theorem rfield_any (a n : Int) (w : World) :
    Calls Try.prog 19 #[.int .i64 a, .int .i64 n] w fun e w' => e = .returned (.bool (fieldB a n)) ∧ w = w' := by
  go_enter Try.func19, Try.ntmps19
  go_wp2
  all_goals
    go_ret
    refine ⟨ret_bool ?_, rfl⟩
    unfold fieldB
    simp [*]
  all_goals omega

set_option maxHeartbeats 400000 in
theorem rfits_any (v : BitVec 64) (n : Int) (w : World) :
    Calls Try.prog 14 #[.int .u64 (U v), .int .i64 n] w fun e w' => e = .returned (.bool (fitsB v n)) ∧ w = w' := by
  go_enter Try.func14, Try.ntmps14
  go_wp2_with (go_at_call 12; refine (rmask_any _ _).mono ?_; rintro e w' ⟨rfl, rfl⟩)
  go_ret
  refine ⟨ret_bool ?_, rfl⟩
  rw [fitsB_le]
  exact decide_eq_decide.2 U_le

set_option maxHeartbeats 400000 in
theorem rget_any (x : BitVec 64) (a n : Int) (w : World) :
    Calls Try.prog 16 #[.int .u64 (U x), .int .i64 a, .int .i64 n] w fun e w' => e = .returned (.int .u64 (U (getW x a n))) ∧ w = w' := by
  by_cases hf : fieldB a n = true
  · obtain ⟨h0, h1, h2, h3⟩ := fieldB_iff.1 hf
    obtain ⟨A, rfl⟩ := Int.eq_ofNat_of_zero_le h2
    obtain ⟨N, rfl⟩ := Int.eq_ofNat_of_zero_le h0
    go_enter Try.func16, Try.ntmps16
    go_wp2_with (go_at_call 19; refine (rfield_any _ _ _).mono ?_; rintro e w' ⟨rfl, rfl⟩)
    go_loop [7, 8] (fun v i => ∃ k : Nat, k ≤ N ∧ i = .int .i64 k ∧ v = .int .u64 (U (getTo x A k))) (fun _ i => N - (intOf i).toNat)
    case atStart => exact ⟨0, Nat.zero_le _, rfl, by rw [getTo_zero]⟩
    case round =>
      obtain ⟨k, hk, rfl, rfl⟩ := hrel
      by_cases hlt : k < N
      · cases hb : x.getLsbD (A + k)
        · have ht : (bits .and .u64 (U x / 2 ^ (A + k)) 1 == 1) = false := by rw [one_bit_eq, hb]
          have H := Lib.hid (getTo_none x A k (by omega) hb); clear hb
          go_wp2
          exact ⟨⟨k + 1, by omega, rfl, by rw [H.out]⟩, by simp [intOf]; omega⟩
        · have ht : (bits .and .u64 (U x / 2 ^ (A + k)) 1 == 1) = true := by rw [one_bit_eq, hb]
          have H := Lib.hid (getTo_one x A k (by omega) hb); clear hb
          go_wp2
          exact ⟨⟨k + 1, by omega, rfl, by rw [H.out]⟩, by simp [intOf]; omega⟩
      · obtain rfl : k = N := by omega
        have H := Lib.hid (getTo_all x A k hf)
        go_wp2
        go_ret
        exact ⟨ret_int (by rw [H.out]), rfl⟩
  · have hf' : fieldB a n = false := by simpa using hf
    go_enter Try.func16, Try.ntmps16
    go_wp2_with (go_at_call 19; refine (rfield_any _ _ _).mono ?_; rintro e w' ⟨rfl, rfl⟩)
    go_ret
    refine ⟨ret_int ?_, rfl⟩
    unfold getW; rw [hf']; rfl

set_option maxHeartbeats 400000 in
theorem rput_no (x : BitVec 64) (a n : Int) (v : BitVec 64) (w : World) (h : putB a n v = false) :
    Calls Try.prog 10 #[.int .u64 (U x), .int .i64 a, .int .i64 n, .int .u64 (U v)] w fun e w' => e = .returned (.tuple #[.int .u64 0, .bool false]) ∧ w = w' := by
  unfold putB at h
  by_cases hf : fieldB a n = true
  · have hv : fitsB v n = false := by simpa [hf] using h
    clear h
    go_enter Try.func10, Try.ntmps10
    go_wp2_with (first
      | (go_at_call 19; refine (rfield_any _ _ _).mono ?_; rintro e w' ⟨rfl, rfl⟩)
      | (go_at_call 14; refine (rfits_any _ _ _).mono ?_; rintro e w' ⟨rfl, rfl⟩))
    go_ret2
    exact ⟨rfl, rfl⟩
  · have hf' : fieldB a n = false := by simpa using hf
    clear h hf
    go_enter Try.func10, Try.ntmps10
    go_wp2_with (first
      | (go_at_call 19; refine (rfield_any _ _ _).mono ?_; rintro e w' ⟨rfl, rfl⟩)
      | (go_at_call 14; refine (rfits_any _ _ _).mono ?_; rintro e w' ⟨rfl, rfl⟩))
    go_ret2
    exact ⟨rfl, rfl⟩

set_option maxHeartbeats 400000 in
theorem rput_yes (x : BitVec 64) (a n : Int) (v : BitVec 64) (w : World) (h : putB a n v = true) :
    Calls Try.prog 10 #[.int .u64 (U x), .int .i64 a, .int .i64 n, .int .u64 (U v)] w fun e w' => e = .returned (.tuple #[.int .u64 (U (putV x a n v)), .bool true]) ∧ w = w' := by
  unfold putB at h
  rw [Bool.and_eq_true] at h
  obtain ⟨hf, hv⟩ := h
  obtain ⟨h0, h1, h2, h3⟩ := fieldB_iff.1 hf
  obtain ⟨A, rfl⟩ := Int.eq_ofNat_of_zero_le h2
  obtain ⟨N, rfl⟩ := Int.eq_ofNat_of_zero_le h0
  go_enter Try.func10, Try.ntmps10
  go_wp2_with (first
    | (go_at_call 19; refine (rfield_any _ _ _).mono ?_; rintro e w' ⟨rfl, rfl⟩)
    | (go_at_call 14; refine (rfits_any _ _ _).mono ?_; rintro e w' ⟨rfl, rfl⟩))
  go_loop [0, 10] (fun z i => ∃ k : Nat, k ≤ N ∧ i = .int .i64 k ∧ z = .int .u64 (U (putTo x A v k))) (fun _ i => N - (intOf i).toNat)
  case atStart => exact ⟨0, Nat.zero_le _, rfl, by rw [putTo_zero _ _ _ (by omega)]⟩
  case round =>
    obtain ⟨k, hk, rfl, rfl⟩ := hrel
    by_cases hlt : k < N
    · cases hb : ((putTo x A v k).getLsbD (A + k) != v.getLsbD k)
      · have ht : (bits .and .u64 (U (putTo x A v k) / 2 ^ (A + k)) 1 != bits .and .u64 (U v / 2 ^ k) 1) = false := by rw [one_bit_ne, hb]
        have H := Lib.hid (putTo_keep x A v k (by omega) hb); clear hb
        go_wp2
        exact ⟨⟨k + 1, by omega, rfl, by rw [H.out]⟩, by simp [intOf]; omega⟩
      · have ht : (bits .and .u64 (U (putTo x A v k) / 2 ^ (A + k)) 1 != bits .and .u64 (U v / 2 ^ k) 1) = true := by rw [one_bit_ne, hb]
        have H := Lib.hid (putTo_flip x A v k (by omega) hb); clear hb
        go_wp2
        exact ⟨⟨k + 1, by omega, rfl, by rw [H.out]⟩, by simp [intOf]; omega⟩
    · obtain rfl : k = N := by omega
      have H := Lib.hid (putTo_all x A k v hv)
      go_wp2
      go_ret2
      exact ⟨ret_two (by rw [H.out]), rfl⟩

end Go.Proofs.Ytkplikhhdhnjkaa
