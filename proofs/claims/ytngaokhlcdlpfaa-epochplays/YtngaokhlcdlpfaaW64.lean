/-
  Plain facts on words of 64 bits: the model's integers of kind u64 as bit vectors. No program is named here.
-/
import Derived.WalkKit
import Derived.Laws.BitsAllLaws
namespace Go.Proofs.Ytngaokhlcdlpfaa.W64

/-- A word's number. -/
def U (x : BitVec 64) : Int := (x.toNat : Int)

theorem U_nonneg (x : BitVec 64) : 0 ≤ U x := Int.natCast_nonneg _
theorem U_lt (x : BitVec 64) : U x < 18446744073709551616 := by
  have := x.isLt; unfold U; omega
theorem U_toNat (x : BitVec 64) : (U x).toNat = x.toNat := Int.toNat_natCast _
theorem U_inj {x y : BitVec 64} : U x = U y ↔ x = y := by
  unfold U; constructor
  · intro h; exact BitVec.eq_of_toNat_eq (by omega)
  · intro h; rw [h]
theorem U_beq (x y : BitVec 64) : (U x == U y) = (x == y) := by
  rw [Bool.eq_iff_iff, beq_iff_eq, beq_iff_eq]; exact U_inj
theorem U_bne (x y : BitVec 64) : (U x != U y) = (x != y) := by
  unfold bne; rw [U_beq]
theorem U_zero : U 0 = 0 := rfl
theorem U_one : U 1 = 1 := rfl
theorem U_ofNat (n : Nat) (h : n < 18446744073709551616) : U (BitVec.ofNat 64 n) = n := by
  unfold U; rw [BitVec.toNat_ofNat, Nat.mod_eq_of_lt h]
theorem U_le {x y : BitVec 64} : U x ≤ U y ↔ x ≤ y := by
  unfold U; rw [BitVec.le_def]; omega
/-- Each number of the kind is a word's. -/
theorem U_of (n : Int) (h : (Lit.int .u64 n).wf = true) : ∃ x : BitVec 64, n = U x := by
  have h' : 0 ≤ n ∧ n < 18446744073709551616 := by
    simp [Lit.wf, IntKind.min, IntKind.max, IntKind.bits, IntKind.signed] at h
    omega
  exact ⟨BitVec.ofNat 64 n.toNat, by rw [U_ofNat _ (by omega)]; omega⟩

theorem ofInt_U (x : BitVec 64) : BitVec.ofInt 64 (U x) = x := by
  unfold U; rw [BitVec.ofInt_natCast, BitVec.ofNat_toNat, BitVec.setWidth_eq]
theorem wrap_U (x : BitVec 64) : IntKind.u64.wrap (U x) = U x := by
  have := U_nonneg x; have := U_lt x
  rw [IntKind.wrap_u64]; omega

theorem and_U (x y : BitVec 64) : bits .and .u64 (U x) (U y) = U (x &&& y) := by
  show IntKind.u64.wrap (U (BitVec.ofInt 64 (U x) &&& BitVec.ofInt 64 (U y))) = _
  rw [ofInt_U, ofInt_U, wrap_U]
theorem or_U (x y : BitVec 64) : bits .or .u64 (U x) (U y) = U (x ||| y) := by
  show IntKind.u64.wrap (U (BitVec.ofInt 64 (U x) ||| BitVec.ofInt 64 (U y))) = _
  rw [ofInt_U, ofInt_U, wrap_U]
theorem xor_U (x y : BitVec 64) : bits .xor .u64 (U x) (U y) = U (x ^^^ y) := by
  show IntKind.u64.wrap (U (BitVec.ofInt 64 (U x) ^^^ BitVec.ofInt 64 (U y))) = _
  rw [ofInt_U, ofInt_U, wrap_U]
theorem andNot_U (x y : BitVec 64) : bits .andNot .u64 (U x) (U y) = U (x &&& ~~~y) := by
  show IntKind.u64.wrap (U (BitVec.ofInt 64 (U x) &&& ~~~(BitVec.ofInt 64 (U y)))) = _
  rw [ofInt_U, ofInt_U, wrap_U]
theorem add_U (x y : BitVec 64) : IntKind.u64.wrap (U x + U y) = U (x + y) := by
  rw [IntKind.wrap_u64]; unfold U; rw [BitVec.toNat_add]; omega
theorem sub_U (x y : BitVec 64) : IntKind.u64.wrap (U x - U y) = U (x - y) := by
  have := x.isLt; have := y.isLt
  rw [IntKind.wrap_u64]; unfold U; rw [BitVec.toNat_sub]; omega
theorem mul_U (x y : BitVec 64) : IntKind.u64.wrap (U x * U y) = U (x * y) := by
  rw [IntKind.wrap_u64]; unfold U; rw [BitVec.toNat_mul, ← Int.natCast_mul]; omega
theorem shl_U (x : BitVec 64) (n : Nat) : IntKind.u64.wrap (U x * 2 ^ n) = U (x <<< n) := by
  rw [IntKind.wrap_u64]; unfold U
  rw [BitVec.toNat_shiftLeft, Nat.shiftLeft_eq]
  have : ((x.toNat : Int) * 2 ^ n) = ((x.toNat * 2 ^ n : Nat) : Int) := by simp
  rw [this]; omega
theorem shr_U (x : BitVec 64) (n : Nat) : U x / 2 ^ n = U (x >>> n) := by
  unfold U
  rw [BitVec.toNat_ushiftRight, Nat.shiftRight_eq_div_pow]
  simp
theorem shl_min (x : BitVec 64) (n : Nat) : x <<< (min n 64) = x <<< n := by
  by_cases h : n ≤ 64
  · rw [Nat.min_eq_left h]
  · rw [Nat.min_eq_right (by omega), BitVec.shiftLeft_eq_zero (Nat.le_refl _), BitVec.shiftLeft_eq_zero (by omega)]
theorem shr_min (x : BitVec 64) (n : Nat) : x >>> (min n 64) = x >>> n := by
  by_cases h : n ≤ 64
  · rw [Nat.min_eq_left h]
  · rw [Nat.min_eq_right (by omega), BitVec.ushiftRight_eq_zero (Nat.le_refl _), BitVec.ushiftRight_eq_zero (by omega)]
end Go.Proofs.Ytngaokhlcdlpfaa.W64
