/-
  Small facts that every layer uses; the contract of rundalemake.Number.
-/
import Derived.Test.YtkfmnaocdfoigaaRows
import Derived.WalkKit
import Derived.ProofKit
import Derived.Deep.QuietTactic
import Derived.BigQuiet
import Derived.Lib.Hide
namespace Go.Proofs.Ytkfmnaocdfoigaa

theorem ret_int {k : IntKind} {a b : Int} (h : a = b) : Ending.returned (.int k a) = .returned (.int k b) := by rw [h]
theorem ret_bool {a b : Bool} (h : a = b) : Ending.returned (.bool a) = .returned (.bool b) := by rw [h]

theorem ret_two {k : IntKind} {a b : Int} {c : Bool} (h : a = b) : Ending.returned (.tuple #[.int k a, .bool c]) = .returned (.tuple #[.int k b, .bool c]) := by rw [h]
theorem quiet_eq {P : Program} {f : FuncId} {args : Array Value} {w : World} {n : Nat} {v : Value}
    (h : Calls P f args (w.drewN n) fun e w' => e = .returned v ∧ w.drewN n = w') : Calls P f args (w.drewN n) fun e w'' => e = .returned v ∧ ∃ m, w'' = w.drewN m :=
  h.mono fun _ _ ⟨he, hm⟩ => ⟨he, n, hm.symm⟩

theorem number_neg (v n : Int) (h : 0 < n) (h1 : v.tmod n < 0) : v.tmod n + n = v % n := by
  have a := Int.tmod_eq_emod (a := v) (b := n)
  have b := Int.emod_nonneg v (show n ≠ 0 by omega)
  split at a
  · omega
  · have : (n.natAbs : Int) = n := by omega
    omega
theorem number_pos (v n : Int) (h : 0 < n) (h1 : 0 ≤ v.tmod n) : v.tmod n = v % n := by
  have a := Int.tmod_eq_emod (a := v) (b := n)
  have b := Int.emod_lt_of_pos v h
  split at a
  · omega
  · have : (n.natAbs : Int) = n := by omega
    omega
theorem wrap64_in {n : Int} (h0 : -9223372036854775808 ≤ n) (h1 : n < 9223372036854775808) : RowKit.wrap64 n = n := by
  unfold RowKit.wrap64; omega
set_option maxHeartbeats 400000 in
theorem number_any (v n : Int) (w : World) (h : 0 < n) (hn : n < 9223372036854775808) :
    Calls Try.prog 9 #[.int .i64 v, .int .i64 n] w fun e w' => e = .returned (.int .i64 (v % n)) ∧ w = w' := by
  go_enter Try.func9, Try.ntmps9
  go_wp2
  all_goals
    go_ret
    refine ⟨ret_int ?_, rfl⟩
  · have h1 := Int.tmod_lt_of_pos v h
    have h2 := number_neg v n h ‹_›
    have h3 := Int.emod_nonneg v (show n ≠ 0 by omega)
    rw [wrap64_in (by omega) (by omega)]
    exact h2
  · exact number_pos v n h ‹_›
theorem number_is {v n k : Int} (e : v % n = k) (h : 0 < n) (hn : n < 9223372036854775808) (w : World) :
    Calls Try.prog 9 #[.int .i64 v, .int .i64 n] w fun e w' => e = .returned (.int .i64 k) ∧ w = w' := e ▸ number_any v n w h hn
theorem emod_letter (v n : Int) (h : 0 < n) : ∃ x, v % n = x ∧ x % n = x ∧ 0 ≤ x ∧ x < n :=
  ⟨_, rfl, Int.emod_emod_of_dvd v (Int.dvd_refl n), Int.emod_nonneg _ (by omega), Int.emod_lt_of_pos _ h⟩
end Go.Proofs.Ytkfmnaocdfoigaa
