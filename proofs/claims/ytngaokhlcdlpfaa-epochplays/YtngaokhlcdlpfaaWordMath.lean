/-
  Fields of a word as plain numbers: what get and put come to by division and sum. Plain facts: no program is named here.
-/
import Derived.Test.YtngaokhlcdlpfaaBitsMath
namespace Go.Proofs.Ytngaokhlcdlpfaa.W64

theorem field_lit {a n : Int} (h0 : 0 ≤ n) (h1 : n ≤ 64) (h2 : 0 ≤ a) (h3 : a ≤ 64 - n) : fieldB a n = true := fieldB_iff.2 ⟨h0, h1, h2, h3⟩
theorem get_num (x : BitVec 64) {a n : Int} {P Q : Nat} (h : fieldB a n = true) (hP : 2 ^ a.toNat = P) (hQ : 2 ^ n.toNat = Q) : U (getW x a n) = U x / P % Q := by
  obtain ⟨h0, h1, _, _⟩ := fieldB_iff.1 h
  unfold getW U
  rw [if_pos h, BitVec.toNat_and, BitVec.toNat_ushiftRight, mask_toNat, cutW_in h0 h1, Nat.and_two_pow_sub_one_eq_mod, Nat.shiftRight_eq_div_pow, hP, hQ]
  rfl
theorem fits_num {v : BitVec 64} {n : Int} {Q : Nat} (h0 : 0 ≤ n) (h1 : n ≤ 64) (hQ : 2 ^ n.toNat = Q) (hv : U v < Q) : fitsB v n = true := by
  rw [fitsB_le, decide_eq_true_iff, BitVec.le_def, mask_toNat, cutW_in h0 h1, hQ]
  unfold U at hv; omega
theorem put_num (x v : BitVec 64) {a n : Int} {P Q : Nat} (h : fieldB a n = true) (hP : 2 ^ a.toNat = P) (hQ : 2 ^ n.toNat = Q) (hx : U x < P) (hv : U v < Q) (hPQ : P * Q ≤ 18446744073709551616) :
    U (putV x a n v) = U x + U v * P := by
  obtain ⟨h0, h1, h2, h3⟩ := fieldB_iff.1 h
  have hp : putB a n v = true := by unfold putB; rw [h, fits_num h0 h1 hQ hv]; rfl
  have e : putV x a n v = x ||| (v <<< a.toNat) := by
    apply BitVec.eq_of_getLsbD_eq
    intro i hi
    rw [putV_bit hp, BitVec.getLsbD_or, BitVec.getLsbD_shiftLeft]
    have hxb : ∀ j, a.toNat ≤ j → x.getLsbD j = false := by
      intro j hj
      have : x.toNat < 2 ^ j := Nat.lt_of_lt_of_le (by rw [← hP] at hx; unfold U at hx; omega) (Nat.pow_le_pow_right (by decide) hj)
      exact Nat.testBit_lt_two_pow this
    have hvb : ∀ j, n.toNat ≤ j → v.getLsbD j = false := by
      intro j hj
      have : v.toNat < 2 ^ j := Nat.lt_of_lt_of_le (by rw [← hQ] at hv; unfold U at hv; omega) (Nat.pow_le_pow_right (by decide) hj)
      exact Nat.testBit_lt_two_pow this
    by_cases c : a.toNat ≤ i ∧ i < a.toNat + n.toNat
    · rw [if_pos c, hxb i c.1]; simp [hi, show ¬ i < a.toNat by omega]
    · rw [if_neg c]
      by_cases c2 : i < a.toNat
      · simp [c2]
      · rw [hxb i (by omega), hvb _ (by omega)]; simp
  have hand : x &&& (v <<< a.toNat) = 0#64 := by
    apply BitVec.eq_of_getLsbD_eq
    intro i hi
    rw [BitVec.getLsbD_and, BitVec.getLsbD_shiftLeft, BitVec.getLsbD_zero]
    by_cases c : i < a.toNat
    · simp [c]
    · have : x.toNat < 2 ^ i := Nat.lt_of_lt_of_le (by rw [← hP] at hx; unfold U at hx; omega) (Nat.pow_le_pow_right (by decide) (Nat.le_of_not_lt c))
      have : x.getLsbD i = false := Nat.testBit_lt_two_pow this
      rw [this, Bool.false_and]
  rw [e, ← add_or hand]
  unfold U at *
  have hP0 : 0 < P := by omega
  have hmul : v.toNat * P + x.toNat < 18446744073709551616 := by
    have : v.toNat + 1 ≤ Q := by omega
    have := Nat.mul_le_mul_right P this
    rw [Nat.add_mul, Nat.one_mul] at this
    have h5 : Q * P = P * Q := Nat.mul_comm _ _
    omega
  rw [BitVec.toNat_add, BitVec.toNat_shiftLeft, Nat.shiftLeft_eq, hP, Nat.mod_eq_of_lt (a := v.toNat * P) (by omega), Nat.mod_eq_of_lt (by omega)]
  push_cast; omega
theorem U_mk {n : Int} (h0 : 0 ≤ n) (h1 : n < 18446744073709551616) : U (BitVec.ofNat 64 n.toNat) = n := by
  rw [U_ofNat _ (by omega)]; omega

/-- From least to most. -/
def inB (n a b : Int) : Bool := decide (a ≤ n) && decide (n ≤ b)
theorem inB_iff {n a b : Int} : inB n a b = true ↔ a ≤ n ∧ n ≤ b := by unfold inB; simp
theorem inB_no {n a b : Int} : inB n a b = false ↔ n < a ∨ b < n := by
  rw [← Bool.not_eq_true, inB_iff]; omega

/-- Heads: which may be, and their words. -/
def headB (i t : Int) : Bool := inB i (-1) 4294967294 && inB t 0 4294967295
theorem headB_iff {i t : Int} : headB i t = true ↔ (-1 ≤ i ∧ i ≤ 4294967294) ∧ (0 ≤ t ∧ t ≤ 4294967295) := by
  unfold headB; rw [Bool.and_eq_true, inB_iff, inB_iff]
def headN (i t : Int) : Int := i + 1 + t * 4294967296
/-- Roots. -/
def rootB (g m c o : Int) : Bool := inB g 0 4294967295 && (inB m 0 4097 && (inB c 0 3 && inB o 0 1024))
theorem rootB_iff {g m c o : Int} : rootB g m c o = true ↔ (0 ≤ g ∧ g ≤ 4294967295) ∧ (0 ≤ m ∧ m ≤ 4097) ∧ (0 ≤ c ∧ c ≤ 3) ∧ (0 ≤ o ∧ o ≤ 1024) := by
  unfold rootB; rw [Bool.and_eq_true, Bool.and_eq_true, Bool.and_eq_true, inB_iff, inB_iff, inB_iff, inB_iff]
def rootN (g m c o : Int) : Int := o + c * 4096 + m * 65536 + g * 4294967296
/-- Pins. -/
def pinB (e : Int) : Bool := inB e 0 4611686018427387903
def pinN (e : Int) : Int := 2 * e + 1
def nextT (t : Int) : Int := if inB t 0 4294967294 then t + 1 else 0
def chunkN (m : Int) : Int := if m < 2 then -1 else m - 2
def liveB (g m gen : Int) : Bool := decide (1 ≤ m) && (g == gen)
/-- The words, 0 where there is none. -/
def headV (i t : Int) : Int := if headB i t then headN i t else 0
def rootV (g m c o : Int) : Int := if rootB g m c o then rootN g m c o else 0
def pinV (e : Int) : Int := if pinB e then pinN e else 0
def pinO (x : Int) : Bool := decide (x % 2 = 1)
def pinE (x : Int) : Int := if pinO x then x / 2 else 0
theorem headV_in (i t : Int) : 0 ≤ headV i t ∧ headV i t < 18446744073709551616 := by
  unfold headV; split
  · rename_i h; have := headB_iff.1 h; unfold headN; omega
  · omega
theorem rootV_in (g m c o : Int) : 0 ≤ rootV g m c o ∧ rootV g m c o < 18446744073709551616 := by
  unfold rootV; split
  · rename_i h; have := rootB_iff.1 h; unfold rootN; omega
  · omega
theorem pinV_in (e : Int) : 0 ≤ pinV e ∧ pinV e < 18446744073709551616 := by
  unfold pinV; split
  · rename_i h; unfold pinB at h; have := inB_iff.1 h; unfold pinN; omega
  · omega
theorem u64_in {n : Int} (h : (Lit.int .u64 n).wf = true) : 0 ≤ n ∧ n < 18446744073709551616 := by
  simp [Lit.wf, IntKind.min, IntKind.max, IntKind.bits, IntKind.signed] at h; omega
theorem i64_in {n : Int} (h : (Lit.int .i64 n).wf = true) : -9223372036854775808 ≤ n ∧ n < 9223372036854775808 := by
  simp [Lit.wf, IntKind.min, IntKind.max, IntKind.bits, IntKind.signed] at h; omega
end Go.Proofs.Ytngaokhlcdlpfaa.W64
