/-
  The contracts of package bits.
-/
import Derived.Test.YtngaokhlcdlpfaaRows
import Derived.Test.YtngaokhlcdlpfaaBitsMath
import Derived.Test.YtngaokhlcdlpfaaNum
import Derived.WalkKit
import Derived.ProofKit
import Derived.Deep.QuietTactic
import Derived.BigQuiet
import Derived.Lib.Hide
namespace Go.Proofs.Ytngaokhlcdlpfaa
open W64

theorem mask_hi {n : Int} (h : 64 < n) : IntKind.u64.wrap (IntKind.u64.wrap 18446744073709551616 - 1) = U (mask n) := by
  have e : cutW n = 64 := by unfold cutW; rw [if_neg (by omega), if_pos h]
  unfold U; rw [mask_toNat, e]; rfl
theorem mask_lo {n : Int} (h : n < 0) : IntKind.u64.wrap (IntKind.u64.wrap 1 - 1) = U (mask n) := by
  have e : cutW n = 0 := by unfold cutW; rw [if_pos h]
  unfold U; rw [mask_toNat, e]; rfl
theorem mask_mid {n : Int} (h0 : 0 ≤ n) (h1 : n ≤ 64) : IntKind.u64.wrap (IntKind.u64.wrap (2 ^ n.toNat) - 1) = U (mask n) := by
  have h := shl_U 1#64 n.toNat
  have e1 : U 1#64 = 1 := rfl
  rw [e1, Int.one_mul] at h
  rw [h, ← e1, sub_U]
  unfold mask; rw [cutW_in h0 h1]

end Go.Proofs.Ytngaokhlcdlpfaa
