/-
  How many words a request takes, as plain functions. No program is named here.
-/
import Derived.WalkKit
namespace Go.Proofs.Ytgflhbemfdehlaa

def rightB (words need : Int) : Bool := decide (1 ≤ need ∧ need ≤ words ∧ words ≤ 1024)
def aloneB (words need : Int) : Bool := rightB words need && decide (words - need < need)
def fits2B (words off need : Int) : Bool := rightB words need && !aloneB words need && decide (0 ≤ off ∧ off ≤ words - need)
def afterN (words need : Int) : Int := if rightB words need = true then (if aloneB words need = true then words else need) else 0
def stepN (c : Int) : Int := if c ≤ 0 then 1 else if c = 1 then 2 else if c = 2 then 4 else 8
def roundN (c n : Int) : Int := if 1 ≤ n ∧ n ≤ 1024 then (n + stepN c - 1) / stepN c * stepN c else 0

theorem rightB_iff {x n : Int} : rightB x n = true ↔ 1 ≤ n ∧ n ≤ x ∧ x ≤ 1024 := by unfold rightB; exact decide_eq_true_iff
theorem aloneB_iff {x n : Int} : aloneB x n = true ↔ (1 ≤ n ∧ n ≤ x ∧ x ≤ 1024) ∧ x - n < n := by
  unfold aloneB; rw [Bool.and_eq_true, rightB_iff, decide_eq_true_iff]
theorem fits2B_iff {x o n : Int} : fits2B x o n = true ↔ (1 ≤ n ∧ n ≤ x ∧ x ≤ 1024) ∧ n ≤ x - n ∧ 0 ≤ o ∧ o ≤ x - n := by
  unfold fits2B
  rw [Bool.and_eq_true, Bool.and_eq_true, rightB_iff, decide_eq_true_iff, Bool.not_eq_true', ← Bool.not_eq_true, aloneB_iff]
  omega
theorem stepN_cases (c : Int) : (c ≤ 0 ∧ stepN c = 1) ∨ (c = 1 ∧ stepN c = 2) ∨ (c = 2 ∧ stepN c = 4) ∨ (3 ≤ c ∧ stepN c = 8) := by
  unfold stepN; split
  · omega
  · split
    · omega
    · split <;> omega
theorem roundN_out {c n : Int} (h : n < 1 ∨ 1024 < n) : roundN c n = 0 := by unfold roundN; rw [if_neg (by omega)]
theorem roundN_in {c n : Int} (h0 : 1 ≤ n) (h1 : n ≤ 1024) : roundN c n = (n + stepN c - 1) / stepN c * stepN c := by unfold roundN; rw [if_pos ⟨h0, h1⟩]
/-- What Round's answer is: a multiple of the step, from n on, less than a step above. -/
theorem roundN_is {c n : Int} (h0 : 1 ≤ n) (h1 : n ≤ 1024) : ∃ k, roundN c n = k * stepN c ∧ n ≤ k * stepN c ∧ k * stepN c < n + stepN c := by
  rw [roundN_in h0 h1]
  refine ⟨_, rfl, ?_⟩
  rcases stepN_cases c with ⟨_, e⟩ | ⟨_, e⟩ | ⟨_, e⟩ | ⟨_, e⟩ <;> rw [e] <;> omega
theorem aloneB_no {x n : Int} (h : ¬ ((1 ≤ n ∧ n ≤ x ∧ x ≤ 1024) ∧ x - n < n)) : aloneB x n = false := by rw [← Bool.not_eq_true, aloneB_iff]; exact h
theorem fits2B_no {x o n : Int} (h : ¬ ((1 ≤ n ∧ n ≤ x ∧ x ≤ 1024) ∧ n ≤ x - n ∧ 0 ≤ o ∧ o ≤ x - n)) : fits2B x o n = false := by rw [← Bool.not_eq_true, fits2B_iff]; exact h
theorem fits2B_is {x o n m : Int} (h : ((1 ≤ n ∧ n ≤ x ∧ x ≤ 1024) ∧ n ≤ x - n ∧ 0 ≤ o ∧ o ≤ x - n) ↔ n ≤ m) : fits2B x o n = decide (n ≤ m) := by
  rw [Bool.eq_iff_iff, fits2B_iff, decide_eq_true_iff]; exact h
theorem afterN_no {x n : Int} (h : ¬ (1 ≤ n ∧ n ≤ x ∧ x ≤ 1024)) : afterN x n = 0 := by
  unfold afterN; rw [if_neg]; rw [rightB_iff]; exact h
theorem afterN_half {x n : Int} (h : 1 ≤ n ∧ n ≤ x ∧ x ≤ 1024) (h2 : n ≤ x - n) : afterN x n = n := by
  unfold afterN; rw [if_pos (rightB_iff.2 h), if_neg]; rw [aloneB_iff]; omega
theorem afterN_all {x n : Int} (h : 1 ≤ n ∧ n ≤ x ∧ x ≤ 1024) (h2 : x - n < n) : afterN x n = x := by
  unfold afterN; rw [if_pos (rightB_iff.2 h), if_pos (aloneB_iff.2 ⟨h, h2⟩)]
/-- A request of at most so many words as the chunk has, rounded, is no more than these, where the chunk's are a multiple of 8. -/
theorem roundN_chunk {c n k : Int} (h0 : 1 ≤ n) (h1 : n ≤ 8 + 8 * k) (h2 : k < 127) : 1 ≤ roundN c n ∧ roundN c n ≤ 8 + 8 * k := by
  rw [roundN_in h0 (by omega)]
  rcases stepN_cases c with ⟨_, e⟩ | ⟨_, e⟩ | ⟨_, e⟩ | ⟨_, e⟩ <;> rw [e] <;> omega
end Go.Proofs.Ytgflhbemfdehlaa
