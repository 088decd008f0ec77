/-
  The contracts of the document's own answers about heads, roots and pins (rundaleref1), in the words of package word's.
-/
import Derived.Test.YtalhbebpoohgkaaWord
namespace Go.Proofs.Ytalhbebpoohgkaa
open W64 Go.RowKit

set_option maxHeartbeats 800000 in
theorem rputHead_yes (i t : Int) (w : World) (h : headB i t = true) :
    Calls Try.prog 39 #[.agg #[.int .i64 i, .int .i64 t]] w fun e w' => e = .returned (.tuple #[.int .u64 (headN i t), .bool true]) ∧ Up w w' := by
  obtain ⟨⟨i0, i1⟩, t0, t1⟩ := headB_iff.1 h
  clear h
  go_enter Try.func39, Try.ntmps39
  go_wp2
  go_ret2
  refine ⟨ret_two ?_, up_box _ _ 0⟩
  unfold headN; omega

set_option maxHeartbeats 800000 in
theorem rputHead_no (i t : Int) (w : World) (h : headB i t = false) :
    Calls Try.prog 39 #[.agg #[.int .i64 i, .int .i64 t]] w fun e w' => e = .returned (.tuple #[.int .u64 0, .bool false]) ∧ Up w w' := by
  have h' : ¬ ((-1 ≤ i ∧ i ≤ 4294967294) ∧ (0 ≤ t ∧ t ≤ 4294967295)) := by rw [← headB_iff, h]; simp
  clear h
  have h'' : i < -1 ∨ (-1 ≤ i ∧ 4294967295 ≤ i) ∨ (-1 ≤ i ∧ i < 4294967295 ∧ t < 0) ∨ (-1 ≤ i ∧ i < 4294967295 ∧ 0 ≤ t ∧ 4294967295 < t) := by omega
  clear h'
  rcases h'' with a | ⟨a, b⟩ | ⟨a, b, c⟩ | ⟨a, b, c, d⟩
  all_goals
    go_enter Try.func39, Try.ntmps39
    go_wp2
    go_ret2
    exact ⟨rfl, up_box _ _ 0⟩

set_option maxHeartbeats 400000 in
theorem rgetHead_any (x : Int) (w : World) (h0 : 0 ≤ x) (h1 : x < 18446744073709551616) :
    Calls Try.prog 62 #[.int .u64 x] w fun e w' => e = .returned (.agg #[.int .i64 (x % 4294967296 - 1), .int .i64 (x / 4294967296)]) ∧ Up w w' := by
  go_enter Try.func62, Try.ntmps62
  go_wp2
  refine bodyPost_ret (v := .agg #[.int .i64 (x % 4294967296 - 1), .int .i64 (x / 4294967296)]) (by simp [results, Try.results62, go_sem]) rfl ⟨rfl, ?_⟩
  exact up_box _ _ 0

set_option maxHeartbeats 400000 in
theorem rnext_exact (i t index : Int) (w : World) :
    Calls Try.prog 69 #[.agg #[.int .i64 i, .int .i64 t], .int .i64 index] w fun e w' => e = .returned (.agg #[.int .i64 index, .int .i64 (nextT t)]) ∧ (w.alloc (.cells #[.int .i64 i, .int .i64 t] 82)).alloc (.cells #[.int .i64 index, .int .i64 (nextT t)] 82) = w' := by
  by_cases c1 : t < 0
  · have e1 : nextT t = 0 := by unfold nextT; rw [inB_no.2 (.inl c1)]; rfl
    rw [e1]; clear e1
    go_enter Try.func69, Try.ntmps69
    go_wp2
    exact bodyPost_ret (v := .agg #[.int .i64 index, .int .i64 0]) (by simp [results, Try.results69, go_sem]) rfl ⟨rfl, rfl⟩
  · by_cases c2 : 4294967295 ≤ t
    · have e1 : nextT t = 0 := by unfold nextT; rw [inB_no.2 (.inr (by omega))]; rfl
      rw [e1]; clear e1
      go_enter Try.func69, Try.ntmps69
      go_wp2
      exact bodyPost_ret (v := .agg #[.int .i64 index, .int .i64 0]) (by simp [results, Try.results69, go_sem]) rfl ⟨rfl, rfl⟩
    · have e1 : nextT t = t + 1 := by unfold nextT; rw [inB_iff.2 ⟨by omega, by omega⟩]; rfl
      rw [e1]; clear e1
      go_enter Try.func69, Try.ntmps69
      go_wp2
      exact bodyPost_ret (v := .agg #[.int .i64 index, .int .i64 (t + 1)]) (by simp [results, Try.results69, go_sem]) rfl ⟨rfl, rfl⟩
theorem rnext_any (i t index : Int) (w : World) :
    Calls Try.prog 69 #[.agg #[.int .i64 i, .int .i64 t], .int .i64 index] w fun e w' => e = .returned (.agg #[.int .i64 index, .int .i64 (nextT t)]) ∧ Up w w' :=
  (rnext_exact i t index w).mono fun _ _ ⟨he, hw⟩ => ⟨he, hw ▸ up_box2 _ _ _⟩

theorem rputHead_any (i t : Int) (w : World) :
    Calls Try.prog 39 #[.agg #[.int .i64 i, .int .i64 t]] w fun e w' => e = .returned (.tuple #[.int .u64 (headV i t), .bool (headB i t)]) ∧ Up w w' := by
  unfold headV
  cases h : headB i t
  · exact rputHead_no i t w h
  · exact rputHead_yes i t w h
end Go.Proofs.Ytalhbebpoohgkaa
