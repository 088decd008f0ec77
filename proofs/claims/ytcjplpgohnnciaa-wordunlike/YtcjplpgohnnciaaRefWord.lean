/-
  The contracts of the document's own answers about heads, roots and pins (rundaleref1), in the words of package word's.
-/
import Derived.Test.YtcjplpgohnnciaaWord
namespace Go.Proofs.Ytcjplpgohnnciaa
open W64 Go.RowKit

set_option maxHeartbeats 400000 in
theorem rin_any (n a b : Int) (w : World) :
    Calls Try.prog 30 #[.int .i64 n, .int .i64 a, .int .i64 b] w fun e w' => e = .returned (.bool (inB n a b)) ∧ w = w' := by
  go_enter Try.func30, Try.ntmps30
  go_wp2
  all_goals
    go_ret
    refine ⟨ret_bool ?_, rfl⟩
    unfold inB
    simp [*]
  all_goals omega

set_option maxHeartbeats 800000 in
theorem rputHead_yes (i t : Int) (w : World) (h : headB i t = true) :
    Calls Try.prog 10 #[.agg #[.int .i64 i, .int .i64 t]] w fun e w' => e = .returned (.tuple #[.int .u64 (headN i t), .bool true]) ∧ Up w w' := by
  obtain ⟨⟨i0, i1⟩, t0, t1⟩ := headB_iff.1 h
  clear h
  go_enter Try.func10, Try.ntmps10
  go_wp2
  go_ret2
  refine ⟨ret_two ?_, up_box _ _ 0⟩
  unfold headN; omega

set_option maxHeartbeats 800000 in
theorem rputHead_no (i t : Int) (w : World) (h : headB i t = false) :
    Calls Try.prog 10 #[.agg #[.int .i64 i, .int .i64 t]] w fun e w' => e = .returned (.tuple #[.int .u64 0, .bool false]) ∧ Up w w' := by
  have h' : ¬ ((-1 ≤ i ∧ i ≤ 4294967294) ∧ (0 ≤ t ∧ t ≤ 4294967295)) := by rw [← headB_iff, h]; simp
  clear h
  have h'' : i < -1 ∨ (-1 ≤ i ∧ 4294967295 ≤ i) ∨ (-1 ≤ i ∧ i < 4294967295 ∧ t < 0) ∨ (-1 ≤ i ∧ i < 4294967295 ∧ 0 ≤ t ∧ 4294967295 < t) := by omega
  clear h'
  rcases h'' with a | ⟨a, b⟩ | ⟨a, b, c⟩ | ⟨a, b, c, d⟩
  all_goals
    go_enter Try.func10, Try.ntmps10
    go_wp2
    go_ret2
    exact ⟨rfl, up_box _ _ 0⟩

set_option maxHeartbeats 400000 in
theorem rgetHead_any (x : Int) (w : World) (h0 : 0 ≤ x) (h1 : x < 18446744073709551616) :
    Calls Try.prog 16 #[.int .u64 x] w fun e w' => e = .returned (.agg #[.int .i64 (x % 4294967296 - 1), .int .i64 (x / 4294967296)]) ∧ Up w w' := by
  go_enter Try.func16, Try.ntmps16
  go_wp2
  refine bodyPost_ret (v := .agg #[.int .i64 (x % 4294967296 - 1), .int .i64 (x / 4294967296)]) (by simp [results, Try.results16, go_sem]) rfl ⟨rfl, ?_⟩
  exact up_box _ _ 0

set_option maxHeartbeats 400000 in
theorem rnext_exact (i t index : Int) (w : World) :
    Calls Try.prog 22 #[.agg #[.int .i64 i, .int .i64 t], .int .i64 index] w fun e w' => e = .returned (.agg #[.int .i64 index, .int .i64 (nextT t)]) ∧ (w.alloc (.cells #[.int .i64 i, .int .i64 t] 31)).alloc (.cells #[.int .i64 index, .int .i64 (nextT t)] 31) = w' := by
  by_cases c1 : t < 0
  · have e1 : nextT t = 0 := by unfold nextT; rw [inB_no.2 (.inl c1)]; rfl
    rw [e1]; clear e1
    go_enter Try.func22, Try.ntmps22
    go_wp2
    exact bodyPost_ret (v := .agg #[.int .i64 index, .int .i64 0]) (by simp [results, Try.results22, go_sem]) rfl ⟨rfl, rfl⟩
  · by_cases c2 : 4294967295 ≤ t
    · have e1 : nextT t = 0 := by unfold nextT; rw [inB_no.2 (.inr (by omega))]; rfl
      rw [e1]; clear e1
      go_enter Try.func22, Try.ntmps22
      go_wp2
      exact bodyPost_ret (v := .agg #[.int .i64 index, .int .i64 0]) (by simp [results, Try.results22, go_sem]) rfl ⟨rfl, rfl⟩
    · have e1 : nextT t = t + 1 := by unfold nextT; rw [inB_iff.2 ⟨by omega, by omega⟩]; rfl
      rw [e1]; clear e1
      go_enter Try.func22, Try.ntmps22
      go_wp2
      exact bodyPost_ret (v := .agg #[.int .i64 index, .int .i64 (t + 1)]) (by simp [results, Try.results22, go_sem]) rfl ⟨rfl, rfl⟩
theorem rnext_any (i t index : Int) (w : World) :
    Calls Try.prog 22 #[.agg #[.int .i64 i, .int .i64 t], .int .i64 index] w fun e w' => e = .returned (.agg #[.int .i64 index, .int .i64 (nextT t)]) ∧ Up w w' :=
  (rnext_exact i t index w).mono fun _ _ ⟨he, hw⟩ => ⟨he, hw ▸ up_box2 _ _ _⟩

set_option maxHeartbeats 400000 in
theorem rputRoot_yes (g k c o : Int) (w : World) (h : rootB g k c o = true) :
    Calls Try.prog 12 #[.agg #[.int .i64 g, .int .i64 k, .int .i64 c, .int .i64 o]] w fun e w' => e = .returned (.tuple #[.int .u64 (rootN g k c o), .bool true]) ∧ Up w w' := by
  obtain ⟨⟨g0, g1⟩, ⟨k0, k1⟩, ⟨c0, c1⟩, o0, o1⟩ := rootB_iff.1 h
  have d1 := inB_iff.2 ⟨g0, g1⟩
  have d2 := inB_iff.2 ⟨k0, k1⟩
  have d3 := inB_iff.2 ⟨c0, c1⟩
  have d4 := inB_iff.2 ⟨o0, o1⟩
  clear h
  go_enter Try.func12, Try.ntmps12
  go_wp2_with (go_at_call 30; refine (rin_any _ _ _ _).mono ?_; rintro e w' ⟨rfl, rfl⟩)
  go_ret2
  refine ⟨ret_two ?_, up_box _ _ 0⟩
  unfold rootN; omega

set_option maxHeartbeats 800000 in
theorem rputRoot_no (g k c o : Int) (w : World) (h : rootB g k c o = false) :
    Calls Try.prog 12 #[.agg #[.int .i64 g, .int .i64 k, .int .i64 c, .int .i64 o]] w fun e w' => e = .returned (.tuple #[.int .u64 0, .bool false]) ∧ Up w w' := by
  unfold rootB at h
  cases d1 : inB g 0 4294967295
  case' true =>
    rw [d1, Bool.true_and] at h
    cases d2 : inB k 0 4097
    case' true =>
      rw [d2, Bool.true_and] at h
      cases d3 : inB c 0 3
      case' true => rw [d3, Bool.true_and] at h
  all_goals
    go_enter Try.func12, Try.ntmps12
    go_wp2_with (go_at_call 30; refine (rin_any _ _ _ _).mono ?_; rintro e w' ⟨rfl, rfl⟩)
    go_ret2
    exact ⟨rfl, up_box _ _ 0⟩

set_option maxHeartbeats 400000 in
theorem rgetRoot_any (x : Int) (w : World) (h0 : 0 ≤ x) (h1 : x < 18446744073709551616) :
    Calls Try.prog 18 #[.int .u64 x] w fun e w' =>
      e = .returned (.agg #[.int .i64 (x / 4294967296), .int .i64 (x / 65536 % 65536), .int .i64 (x / 4096 % 16), .int .i64 (x % 4096)]) ∧ Up w w' := by
  go_enter Try.func18, Try.ntmps18
  go_wp2
  refine bodyPost_ret (v := .agg #[.int .i64 (x / 4294967296), .int .i64 (x / 65536 % 65536), .int .i64 (x / 4096 % 16), .int .i64 (x % 4096)]) (by simp [results, Try.results18, go_sem]) rfl ⟨rfl, ?_⟩
  exact up_box _ _ 0

set_option maxHeartbeats 400000 in
theorem rlive_any (g k c o gen : Int) (w : World) :
    Calls Try.prog 24 #[.agg #[.int .i64 g, .int .i64 k, .int .i64 c, .int .i64 o], .int .i64 gen] w fun e w' => e = .returned (.bool (liveB g k gen)) ∧ Up w w' := by
  by_cases h : 1 ≤ k
  · go_enter Try.func24, Try.ntmps24
    go_wp2
    go_ret
    refine ⟨ret_bool ?_, up_box _ _ 0⟩
    unfold liveB; simp [h]
  · go_enter Try.func24, Try.ntmps24
    go_wp2
    go_ret
    refine ⟨ret_bool ?_, up_box _ _ 0⟩
    unfold liveB; rw [decide_eq_false (by omega)]; rfl

set_option maxHeartbeats 400000 in
theorem rchunk_any (g k c o : Int) (w : World) (k0 : k < 9223372036854775808) :
    Calls Try.prog 26 #[.agg #[.int .i64 g, .int .i64 k, .int .i64 c, .int .i64 o]] w fun e w' => e = .returned (.int .i64 (chunkN k)) ∧ Up w w' := by
  by_cases h : k < 2
  · go_enter Try.func26, Try.ntmps26
    go_wp2
    go_ret
    refine ⟨ret_int ?_, up_box _ _ 0⟩
    unfold chunkN; rw [if_pos h]
  · go_enter Try.func26, Try.ntmps26
    go_wp2
    go_ret
    refine ⟨ret_int ?_, up_box _ _ 0⟩
    unfold chunkN; rw [if_neg (by omega)]

set_option maxHeartbeats 400000 in
theorem rputPin_yes (p : Int) (w : World) (h : pinB p = true) :
    Calls Try.prog 14 #[.int .i64 p] w fun e w' => e = .returned (.tuple #[.int .u64 (pinN p), .bool true]) ∧ w = w' := by
  unfold pinB at h
  obtain ⟨h0, h1⟩ := inB_iff.1 h
  go_enter Try.func14, Try.ntmps14
  go_wp2_with (go_at_call 30; refine (rin_any _ _ _ _).mono ?_; rintro e w' ⟨rfl, rfl⟩)
  go_ret2
  exact ⟨rfl, rfl⟩

set_option maxHeartbeats 400000 in
theorem rputPin_no (p : Int) (w : World) (h : pinB p = false) :
    Calls Try.prog 14 #[.int .i64 p] w fun e w' => e = .returned (.tuple #[.int .u64 0, .bool false]) ∧ w = w' := by
  unfold pinB at h
  go_enter Try.func14, Try.ntmps14
  go_wp2_with (go_at_call 30; refine (rin_any _ _ _ _).mono ?_; rintro e w' ⟨rfl, rfl⟩)
  go_ret2
  exact ⟨rfl, rfl⟩

set_option maxHeartbeats 400000 in
theorem rgetPin_odd (x : Int) (w : World) (h0 : 0 ≤ x) (h1 : x < 18446744073709551616) (h : x % 2 = 1) :
    Calls Try.prog 20 #[.int .u64 x] w fun e w' => e = .returned (.tuple #[.int .i64 (x / 2), .bool true]) ∧ w = w' := by
  go_enter Try.func20, Try.ntmps20
  go_wp2
  go_ret2
  exact ⟨rfl, rfl⟩

set_option maxHeartbeats 400000 in
theorem rgetPin_even (x : Int) (w : World) (h0 : 0 ≤ x) (h1 : x < 18446744073709551616) (h : x % 2 = 0) :
    Calls Try.prog 20 #[.int .u64 x] w fun e w' => e = .returned (.tuple #[.int .i64 0, .bool false]) ∧ w = w' := by
  go_enter Try.func20, Try.ntmps20
  go_wp2
  go_ret2
  exact ⟨rfl, rfl⟩
theorem rputHead_any (i t : Int) (w : World) :
    Calls Try.prog 10 #[.agg #[.int .i64 i, .int .i64 t]] w fun e w' => e = .returned (.tuple #[.int .u64 (headV i t), .bool (headB i t)]) ∧ Up w w' := by
  unfold headV
  cases h : headB i t
  · exact rputHead_no i t w h
  · exact rputHead_yes i t w h
theorem rputRoot_any (g k c o : Int) (w : World) :
    Calls Try.prog 12 #[.agg #[.int .i64 g, .int .i64 k, .int .i64 c, .int .i64 o]] w fun e w' => e = .returned (.tuple #[.int .u64 (rootV g k c o), .bool (rootB g k c o)]) ∧ Up w w' := by
  unfold rootV
  cases h : rootB g k c o
  · exact rputRoot_no g k c o w h
  · exact rputRoot_yes g k c o w h
theorem rputPin_any (p : Int) (w : World) :
    Calls Try.prog 14 #[.int .i64 p] w fun e w' => e = .returned (.tuple #[.int .u64 (pinV p), .bool (pinB p)]) ∧ w = w' := by
  unfold pinV
  cases h : pinB p
  · exact rputPin_no p w h
  · exact rputPin_yes p w h
theorem rgetPin_any (x : Int) (w : World) (h0 : 0 ≤ x) (h1 : x < 18446744073709551616) :
    Calls Try.prog 20 #[.int .u64 x] w fun e w' => e = .returned (.tuple #[.int .i64 (pinE x), .bool (pinO x)]) ∧ w = w' := by
  unfold pinE
  by_cases h : x % 2 = 1
  · have e : pinO x = true := by unfold pinO; exact decide_eq_true h
    rw [e]; exact rgetPin_odd x w h0 h1 h
  · have e : pinO x = false := by unfold pinO; exact decide_eq_false h
    rw [e]; exact rgetPin_even x w h0 h1 (by omega)
end Go.Proofs.Ytcjplpgohnnciaa
