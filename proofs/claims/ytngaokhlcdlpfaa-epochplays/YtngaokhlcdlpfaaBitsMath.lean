/-
  Fields of a word, as bit vectors: what masks, fits, gets and puts come to. Plain facts: no program is named here.
-/
import Derived.Test.YtngaokhlcdlpfaaW64
namespace Go.Proofs.Ytngaokhlcdlpfaa.W64

/-- A width, cut to from 0 to 64. -/
def cutW (n : Int) : Nat := if n < 0 then 0 else if 64 < n then 64 else n.toNat
theorem cutW_le (n : Int) : cutW n ≤ 64 := by unfold cutW; split <;> (try split) <;> omega
theorem cutW_in {n : Int} (h0 : 0 ≤ n) (h1 : n ≤ 64) : cutW n = n.toNat := by unfold cutW; rw [if_neg (by omega), if_neg (by omega)]
def mask (n : Int) : BitVec 64 := ((1#64) <<< cutW n) - 1#64

theorem mask_toNat (n : Int) : (mask n).toNat = 2 ^ cutW n - 1 := by
  have h := cutW_le n
  unfold mask
  generalize cutW n = k at *
  rw [BitVec.toNat_sub, BitVec.toNat_shiftLeft, Nat.shiftLeft_eq]
  have h1 : (1#64).toNat = 1 := rfl
  rw [h1, Nat.one_mul]
  by_cases e : k = 64
  · subst e; decide
  · have hk : 2 ^ k < 2 ^ 64 := Nat.pow_lt_pow_right (by decide) (by omega)
    have hp : 0 < 2 ^ k := Nat.two_pow_pos k
    omega
theorem mask_bit (n : Int) (i : Nat) : (mask n).getLsbD i = decide (i < cutW n) := by
  rw [BitVec.getLsbD, mask_toNat, Nat.testBit_two_pow_sub_one]

def fieldB (a n : Int) : Bool := decide (0 ≤ n) && (decide (n ≤ 64) && (decide (0 ≤ a) && decide (a ≤ 64 - n)))
theorem fieldB_iff {a n : Int} : fieldB a n = true ↔ 0 ≤ n ∧ n ≤ 64 ∧ 0 ≤ a ∧ a ≤ 64 - n := by
  unfold fieldB; simp
def fitsB (v : BitVec 64) (n : Int) : Bool := (v &&& ~~~(mask n)) == 0#64
def getW (x : BitVec 64) (a n : Int) : BitVec 64 := if fieldB a n then (x >>> a.toNat) &&& mask n else 0#64
def putB (a n : Int) (v : BitVec 64) : Bool := fieldB a n && fitsB v n
def putV (x : BitVec 64) (a n : Int) (v : BitVec 64) : BitVec 64 := (x &&& ~~~(mask n <<< a.toNat)) ||| (v <<< a.toNat)
def putW (x : BitVec 64) (a n : Int) (v : BitVec 64) : BitVec 64 := if putB a n v then putV x a n v else 0#64

theorem fitsB_iff {v : BitVec 64} {n : Int} : fitsB v n = true ↔ ∀ i, cutW n ≤ i → v.getLsbD i = false := by
  unfold fitsB
  rw [beq_iff_eq]
  constructor
  · intro h i hi
    have := congrArg (fun x => BitVec.getLsbD x i) h
    simp only [BitVec.getLsbD_and, BitVec.getLsbD_not, mask_bit, BitVec.getLsbD_zero] at this
    by_cases h64 : i < 64
    · simpa [h64, show ¬ i < cutW n by omega] using this
    · exact BitVec.getLsbD_of_ge _ _ (by omega)
  · intro h
    apply BitVec.eq_of_getLsbD_eq
    intro i hi
    simp only [BitVec.getLsbD_and, BitVec.getLsbD_not, mask_bit, BitVec.getLsbD_zero]
    by_cases hc : i < cutW n
    · simp [hc]
    · simp [h i (by omega)]
theorem fitsB_le (v : BitVec 64) (n : Int) : fitsB v n = decide (v ≤ mask n) := by
  rw [Bool.eq_iff_iff, fitsB_iff, decide_eq_true_iff, BitVec.le_def, mask_toNat]
  have hp : 0 < 2 ^ cutW n := Nat.two_pow_pos _
  constructor
  · intro h
    have : v.toNat < 2 ^ cutW n := Nat.lt_pow_two_of_testBit _ fun i hi => h i hi
    omega
  · intro h i hi
    have : v.toNat < 2 ^ cutW n := by omega
    exact Nat.testBit_lt_two_pow (Nat.lt_of_lt_of_le this (Nat.pow_le_pow_right (by decide) hi))
theorem fitsB_and (v : BitVec 64) (n : Int) : fitsB (v &&& mask n) n = true := by
  rw [fitsB_iff]; intro i hi
  rw [BitVec.getLsbD_and, mask_bit, decide_eq_false (by omega), Bool.and_false]

theorem getW_bit {x : BitVec 64} {a n : Int} (h : fieldB a n = true) (i : Nat) : (getW x a n).getLsbD i = (decide (i < n.toNat) && x.getLsbD (a.toNat + i)) := by
  obtain ⟨h0, h1, _, _⟩ := fieldB_iff.1 h
  unfold getW
  rw [if_pos h, BitVec.getLsbD_and, BitVec.getLsbD_ushiftRight, mask_bit, cutW_in h0 h1, Bool.and_comm]
theorem putV_bit {x : BitVec 64} {a n : Int} {v : BitVec 64} (h : putB a n v = true) (i : Nat) :
    (putV x a n v).getLsbD i = if a.toNat ≤ i ∧ i < a.toNat + n.toNat then v.getLsbD (i - a.toNat) else x.getLsbD i := by
  unfold putB at h
  rw [Bool.and_eq_true] at h
  obtain ⟨hf, hv⟩ := h
  obtain ⟨h0, h1, h2, h3⟩ := fieldB_iff.1 hf
  rw [fitsB_iff, cutW_in h0 h1] at hv
  unfold putV
  by_cases h64 : i < 64
  · simp only [BitVec.getLsbD_or, BitVec.getLsbD_and, BitVec.getLsbD_not, BitVec.getLsbD_shiftLeft, mask_bit, cutW_in h0 h1, h64, decide_true, Bool.true_and]
    by_cases ha : i < a.toNat
    · simp [ha, show ¬ (a.toNat ≤ i) by omega]
    · by_cases hb : i < a.toNat + n.toNat
      · simp [ha, show a.toNat ≤ i by omega, hb, show i - a.toNat < n.toNat by omega]
      · simp [ha, hb, show ¬ (i - a.toNat < n.toNat) by omega, hv (i - a.toNat) (by omega)]
  · rw [BitVec.getLsbD_of_ge _ _ (by omega), if_neg (by omega), BitVec.getLsbD_of_ge _ _ (by omega)]

theorem mask_twice (n : Int) (h0 : 0 ≤ n) (h1 : n < 64) : IntKind.u64.wrap (IntKind.u64.wrap (2 * U (mask n)) + 1) = U (mask (n + 1)) := by
  have hk : 2 ^ n.toNat ≤ 2 ^ 63 := Nat.pow_le_pow_right (by decide) (by omega)
  have hp : 0 < 2 ^ n.toNat := Nat.two_pow_pos _
  rw [IntKind.wrap_u64, IntKind.wrap_u64]
  unfold U
  rw [mask_toNat, mask_toNat, cutW_in h0 (by omega), cutW_in (by omega) (by omega), show (n + 1).toNat = n.toNat + 1 by omega, Nat.pow_succ]
  omega
theorem mask_zero {n : Int} (h : n ≤ 0) : (0 : Int) = U (mask n) := by
  have e : cutW n = 0 := by unfold cutW; split <;> (try split) <;> omega
  unfold U; rw [mask_toNat, e]; rfl
theorem mask_full {n : Int} (h : 64 ≤ n) : (18446744073709551615 : Int) = U (mask n) := by
  have e : cutW n = 64 := by unfold cutW; split <;> (try split) <;> omega
  unfold U; rw [mask_toNat, e]; rfl
theorem fitsB_full {v : BitVec 64} {n : Int} (h : 64 ≤ n) : fitsB v n = true := by
  have e : cutW n = 64 := by unfold cutW; split <;> (try split) <;> omega
  rw [fitsB_iff, e]; intro i hi; exact BitVec.getLsbD_of_ge _ _ hi
theorem fitsB_U (v : BitVec 64) (n : Int) : fitsB v n = decide (U v ≤ U (mask n)) := by
  rw [fitsB_le]; exact decide_eq_decide.2 U_le.symm

/-! ### Bit by bit -/
theorem one_bit (x : BitVec 64) (j : Nat) : bits .and .u64 (U x / 2 ^ j) 1 = if x.getLsbD j = true then 1 else 0 := by
  have e1 : (1 : Int) = U 1#64 := rfl
  have key : (x >>> j) &&& 1#64 = if x.getLsbD j = true then 1#64 else 0#64 := by
    apply BitVec.eq_of_getLsbD_eq
    intro i hi
    rw [BitVec.getLsbD_and, BitVec.getLsbD_ushiftRight, BitVec.getLsbD_one]
    by_cases h : i = 0
    · subst h
      cases hx : x.getLsbD j <;> simp
    · cases hx : x.getLsbD j <;> simp [h]
  rw [e1, shr_U, and_U, key]
  cases hx : x.getLsbD j <;> rfl
theorem one_bit_eq (x : BitVec 64) (j : Nat) : (bits .and .u64 (U x / 2 ^ j) 1 == 1) = x.getLsbD j := by
  rw [one_bit]; cases x.getLsbD j <;> rfl
theorem one_bit_ne (x y : BitVec 64) (i j : Nat) : (bits .and .u64 (U x / 2 ^ i) 1 != bits .and .u64 (U y / 2 ^ j) 1) = (x.getLsbD i != y.getLsbD j) := by
  rw [one_bit, one_bit]; cases x.getLsbD i <;> cases y.getLsbD j <;> rfl
theorem one_shl (k : Nat) : IntKind.u64.wrap (2 ^ k) = U (1#64 <<< k) := by
  have h := shl_U 1#64 k
  have e1 : U 1#64 = 1 := rfl
  rwa [e1, Int.one_mul] at h

/-- The k lowest bits of a field. -/
def getTo (x : BitVec 64) (a : Nat) (k : Nat) : BitVec 64 := (x >>> a) &&& mask k
theorem getTo_bit (x : BitVec 64) (a k i : Nat) (h : k ≤ 64) : (getTo x a k).getLsbD i = (x.getLsbD (a + i) && decide (i < k)) := by
  unfold getTo
  rw [BitVec.getLsbD_and, BitVec.getLsbD_ushiftRight, mask_bit, cutW_in (by omega) (by omega), Int.toNat_natCast]
theorem getTo_zero (x : BitVec 64) (a : Nat) : U (getTo x a 0) = 0 := by
  have : getTo x a 0 = 0#64 := by
    apply BitVec.eq_of_getLsbD_eq; intro i hi; rw [getTo_bit _ _ _ _ (by omega)]; simp
  rw [this]; rfl
theorem add_or {x y : BitVec 64} (h : x &&& y = 0#64) : x + y = x ||| y := BitVec.add_eq_or_of_and_eq_zero x y h
theorem getTo_one (x : BitVec 64) (a k : Nat) (h : k < 64) (hb : x.getLsbD (a + k) = true) :
    IntKind.u64.wrap (U (getTo x a k) + IntKind.u64.wrap (2 ^ k)) = U (getTo x a (k + 1)) := by
  rw [one_shl, add_U, U_inj, add_or]
  · apply BitVec.eq_of_getLsbD_eq
    intro i hi
    rw [BitVec.getLsbD_or, getTo_bit _ _ _ _ (by omega), getTo_bit _ _ _ _ (by omega), BitVec.getLsbD_shiftLeft, BitVec.getLsbD_one]
    by_cases e : i = k
    · subst e; simp [hb, h]
    · by_cases e2 : i < k
      · simp [e2, show i < k + 1 by omega]
      · simp [e2, show ¬ i < k + 1 by omega]; omega
  · apply BitVec.eq_of_getLsbD_eq
    intro i hi
    rw [BitVec.getLsbD_and, getTo_bit _ _ _ _ (by omega), BitVec.getLsbD_shiftLeft]
    by_cases e2 : i < k
    · simp [e2]
    · simp [e2]
theorem getTo_none (x : BitVec 64) (a k : Nat) (h : k < 64) (hb : x.getLsbD (a + k) = false) : getTo x a k = getTo x a (k + 1) := by
  apply BitVec.eq_of_getLsbD_eq
  intro i hi
  rw [getTo_bit _ _ _ _ (by omega), getTo_bit _ _ _ _ (by omega)]
  by_cases e : i = k
  · subst e; simp [hb]
  · have : i < k ↔ i < k + 1 := by omega
    simp [this]
theorem getTo_all (x : BitVec 64) (a n : Nat) (h : fieldB a n = true) : getTo x a n = getW x a n := by
  unfold getTo getW; rw [if_pos h, Int.toNat_natCast]

/-- A word with the k lowest bits of a number in a field. -/
def putTo (x : BitVec 64) (a : Nat) (v : BitVec 64) (k : Nat) : BitVec 64 := putV x a k (v &&& mask k)
theorem putTo_bit (x : BitVec 64) (a : Nat) (v : BitVec 64) (k i : Nat) (h : a + k ≤ 64) :
    (putTo x a v k).getLsbD i = if a ≤ i ∧ i < a + k then v.getLsbD (i - a) else x.getLsbD i := by
  have hp : putB a k (v &&& mask k) = true := by
    unfold putB; rw [fitsB_and, fieldB_iff.2 ⟨by omega, by omega, by omega, by omega⟩]; rfl
  unfold putTo
  rw [putV_bit hp, Int.toNat_natCast, Int.toNat_natCast, BitVec.getLsbD_and, mask_bit, cutW_in (by omega) (by omega), Int.toNat_natCast]
  split
  · rw [decide_eq_true (by omega), Bool.and_true]
  · rfl
theorem putTo_zero (x : BitVec 64) (a : Nat) (v : BitVec 64) (h : a ≤ 64) : putTo x a v 0 = x := by
  apply BitVec.eq_of_getLsbD_eq; intro i hi; rw [putTo_bit _ _ _ _ _ (by omega), if_neg (by omega)]
theorem putTo_flip (x : BitVec 64) (a : Nat) (v : BitVec 64) (k : Nat) (h : a + k < 64) (hb : ((putTo x a v k).getLsbD (a + k) != v.getLsbD k) = true) :
    bits .xor .u64 (U (putTo x a v k)) (IntKind.u64.wrap (2 ^ (a + k))) = U (putTo x a v (k + 1)) := by
  rw [putTo_bit _ _ _ _ _ (by omega), if_neg (by omega)] at hb
  rw [one_shl, xor_U, U_inj]
  apply BitVec.eq_of_getLsbD_eq
  intro i hi
  rw [BitVec.getLsbD_xor, putTo_bit _ _ _ _ _ (by omega), putTo_bit _ _ _ _ _ (by omega), BitVec.getLsbD_shiftLeft, BitVec.getLsbD_one]
  by_cases e : i = a + k
  · subst e
    rw [if_neg (by omega), if_pos (by omega), show a + k - a = k by omega]
    rw [show a + k - (a + k) = 0 by omega]
    generalize x.getLsbD (a + k) = p at *
    generalize v.getLsbD k = q at *
    cases p <;> cases q <;> simp [h] at hb ⊢
  · have e2 : (a ≤ i ∧ i < a + (k + 1)) ↔ (a ≤ i ∧ i < a + k) := by omega
    simp only [e2]
    by_cases e3 : i < a + k
    · simp [e3]
    · simp [show ¬ (i - (a + k) = 0) by omega]
theorem putTo_keep (x : BitVec 64) (a : Nat) (v : BitVec 64) (k : Nat) (h : a + k < 64) (hb : ((putTo x a v k).getLsbD (a + k) != v.getLsbD k) = false) :
    putTo x a v k = putTo x a v (k + 1) := by
  rw [putTo_bit _ _ _ _ _ (by omega), if_neg (by omega)] at hb
  apply BitVec.eq_of_getLsbD_eq
  intro i hi
  rw [putTo_bit _ _ _ _ _ (by omega), putTo_bit _ _ _ _ _ (by omega)]
  by_cases e : i = a + k
  · subst e
    rw [if_neg (by omega), if_pos (by omega), show a + k - a = k by omega]
    simpa using hb
  · have e2 : (a ≤ i ∧ i < a + (k + 1)) ↔ (a ≤ i ∧ i < a + k) := by omega
    simp only [e2]
theorem and_mask_of_fits {v : BitVec 64} {n : Int} (h : fitsB v n = true) : v &&& mask n = v := by
  rw [fitsB_iff] at h
  apply BitVec.eq_of_getLsbD_eq
  intro i hi
  rw [BitVec.getLsbD_and, mask_bit]
  by_cases e : i < cutW n
  · simp [e]
  · rw [h i (by omega), Bool.false_and]
theorem putTo_all (x : BitVec 64) (a n : Nat) (v : BitVec 64) (h : fitsB v n = true) : putTo x a v n = putV x a n v := by
  unfold putTo; rw [and_mask_of_fits h]
end Go.Proofs.Ytngaokhlcdlpfaa.W64
