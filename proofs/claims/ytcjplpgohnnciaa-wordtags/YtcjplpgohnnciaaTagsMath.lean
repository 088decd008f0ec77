/-
  Tags one behind the other, and the words of the heads that bear them. Plain facts: no program is named here.
-/
import Derived.Test.YtcjplpgohnnciaaWordMath
namespace Go.Proofs.Ytcjplpgohnnciaa.W64

/-- The tag behind so many exchanges. -/
def tg (t0 : Int) (k : Nat) : Int := (t0 + k) % 4294967296
theorem tg_in (t0 : Int) (k : Nat) : 0 ≤ tg t0 k ∧ tg t0 k ≤ 4294967295 := by unfold tg; omega
theorem tg_zero {t0 : Int} (h0 : 0 ≤ t0) (h1 : t0 ≤ 4294967295) : tg t0 0 = t0 := by unfold tg; omega
theorem tg_next (t0 : Int) (k : Nat) : nextT (tg t0 k) = tg t0 (k + 1) := by
  have h := tg_in t0 k
  unfold nextT
  by_cases c : tg t0 k ≤ 4294967294
  · rw [inB_iff.2 ⟨h.1, c⟩, if_pos rfl]; unfold tg at *; omega
  · rw [inB_no.2 (.inr (by omega)), if_neg (by simp)]; unfold tg at *; omega
theorem tg_mod (t0 : Int) (k : Nat) : (tg t0 k + 1) % 4294967296 = tg t0 (k + 1) := by unfold tg; omega
/-- The word of the j-th exchange. -/
def wd (zs : List Int) (t0 : Int) (j : Nat) : Int := headN (zs.getD j 0 % 5 - 1) (tg t0 (j + 1))
theorem wd_head (zs : List Int) (t0 : Int) (j : Nat) : headB (zs.getD j 0 % 5 - 1) (tg t0 (j + 1)) = true := by
  have h := tg_in t0 (j + 1)
  exact headB_iff.2 (by omega)
theorem wd_ne (zs : List Int) (t0 : Int) {j k : Nat} (h : j < k) (hk : k ≤ 60) : (wd zs t0 j == wd zs t0 k) = false := by
  rw [beq_eq_false_iff_ne]
  unfold wd headN tg
  omega
def wds (zs : List Int) (t0 : Int) (k : Nat) : List Value := (List.range k).map fun j => .int .u64 (wd zs t0 j)
theorem wds_zero (zs : List Int) (t0 : Int) : wds zs t0 0 = [] := rfl
theorem wds_succ (zs : List Int) (t0 : Int) (k : Nat) : wds zs t0 k ++ [.int .u64 (wd zs t0 k)] = wds zs t0 (k + 1) := by
  unfold wds; rw [List.range_succ, List.map_append]; rfl
theorem wds_get (zs : List Int) (t0 : Int) {j k : Nat} (h : j < k) : (wds zs t0 k)[j]? = some (.int .u64 (wd zs t0 j)) := by
  unfold wds; simp [h]
theorem next_below (n : Int) : nextT (-1 - n % 1000) = 0 := by
  unfold nextT; rw [inB_no.2 (.inl (by omega)), if_neg (by simp)]
end Go.Proofs.Ytcjplpgohnnciaa.W64
