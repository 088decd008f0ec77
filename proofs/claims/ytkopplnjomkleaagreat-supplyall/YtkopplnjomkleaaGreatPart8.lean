/-
  Texts beneath SupplyAll, part 8: BitsMath, Bits, WordMath, Word, CellsMore.
-/
import Derived.Test.YtkopplnjomkleaaGreatPart7
import Derived.Test.YtkopplnjomkleaaGreatRows
import Derived.WalkKit
import Derived.ProofKit
import Derived.Deep.QuietTactic
import Derived.BigQuiet
import Derived.Lib.Hide
import Derived.Deep.RegionHeld3
import Derived.Deep.DrawnRows
import Derived.StillTailTactics
import Derived.Deep.DeepCutAuto
import Derived.Laws.EntriesVeiled
/-
  Fields of a word, as bit vectors: what masks, fits, gets and puts come to. Plain facts: no program is named here.
-/
namespace Go.Proofs.YtkopplnjomkleaaGreat.W64

/-- A width, cut to from 0 to 64. -/
def cutW (n : Int) : Nat := if n < 0 then 0 else if 64 < n then 64 else n.toNat
theorem cutW_le (n : Int) : cutW n ≤ 64 := by unfold cutW; split <;> (try split) <;> omega
theorem cutW_in {n : Int} (h0 : 0 ≤ n) (h1 : n ≤ 64) : cutW n = n.toNat := by unfold cutW; rw [if_neg (by omega), if_neg (by omega)]
def mask (n : Int) : BitVec 64 := ((1#64) <<< cutW n) - 1#64

theorem mask_toNat (n : Int) : (mask n).toNat = 2 ^ cutW n - 1 := by
  have h := cutW_le n
  unfold mask
  generalize cutW n = k at *
  rw [BitVec.toNat_sub, BitVec.toNat_shiftLeft, Nat.shiftLeft_eq]
  have h1 : (1#64).toNat = 1 := rfl
  rw [h1, Nat.one_mul]
  by_cases e : k = 64
  · subst e; decide
  · have hk : 2 ^ k < 2 ^ 64 := Nat.pow_lt_pow_right (by decide) (by omega)
    have hp : 0 < 2 ^ k := Nat.two_pow_pos k
    omega
theorem mask_bit (n : Int) (i : Nat) : (mask n).getLsbD i = decide (i < cutW n) := by
  rw [BitVec.getLsbD, mask_toNat, Nat.testBit_two_pow_sub_one]

def fieldB (a n : Int) : Bool := decide (0 ≤ n) && (decide (n ≤ 64) && (decide (0 ≤ a) && decide (a ≤ 64 - n)))
theorem fieldB_iff {a n : Int} : fieldB a n = true ↔ 0 ≤ n ∧ n ≤ 64 ∧ 0 ≤ a ∧ a ≤ 64 - n := by
  unfold fieldB; simp
def fitsB (v : BitVec 64) (n : Int) : Bool := (v &&& ~~~(mask n)) == 0#64
def getW (x : BitVec 64) (a n : Int) : BitVec 64 := if fieldB a n then (x >>> a.toNat) &&& mask n else 0#64
def putB (a n : Int) (v : BitVec 64) : Bool := fieldB a n && fitsB v n
def putV (x : BitVec 64) (a n : Int) (v : BitVec 64) : BitVec 64 := (x &&& ~~~(mask n <<< a.toNat)) ||| (v <<< a.toNat)
def putW (x : BitVec 64) (a n : Int) (v : BitVec 64) : BitVec 64 := if putB a n v then putV x a n v else 0#64

theorem fitsB_iff {v : BitVec 64} {n : Int} : fitsB v n = true ↔ ∀ i, cutW n ≤ i → v.getLsbD i = false := by
  unfold fitsB
  rw [beq_iff_eq]
  constructor
  · intro h i hi
    have := congrArg (fun x => BitVec.getLsbD x i) h
    simp only [BitVec.getLsbD_and, BitVec.getLsbD_not, mask_bit, BitVec.getLsbD_zero] at this
    by_cases h64 : i < 64
    · simpa [h64, show ¬ i < cutW n by omega] using this
    · exact BitVec.getLsbD_of_ge _ _ (by omega)
  · intro h
    apply BitVec.eq_of_getLsbD_eq
    intro i hi
    simp only [BitVec.getLsbD_and, BitVec.getLsbD_not, mask_bit, BitVec.getLsbD_zero]
    by_cases hc : i < cutW n
    · simp [hc]
    · simp [h i (by omega)]
theorem fitsB_le (v : BitVec 64) (n : Int) : fitsB v n = decide (v ≤ mask n) := by
  rw [Bool.eq_iff_iff, fitsB_iff, decide_eq_true_iff, BitVec.le_def, mask_toNat]
  have hp : 0 < 2 ^ cutW n := Nat.two_pow_pos _
  constructor
  · intro h
    have : v.toNat < 2 ^ cutW n := Nat.lt_pow_two_of_testBit _ fun i hi => h i hi
    omega
  · intro h i hi
    have : v.toNat < 2 ^ cutW n := by omega
    exact Nat.testBit_lt_two_pow (Nat.lt_of_lt_of_le this (Nat.pow_le_pow_right (by decide) hi))
theorem fitsB_and (v : BitVec 64) (n : Int) : fitsB (v &&& mask n) n = true := by
  rw [fitsB_iff]; intro i hi
  rw [BitVec.getLsbD_and, mask_bit, decide_eq_false (by omega), Bool.and_false]

theorem getW_bit {x : BitVec 64} {a n : Int} (h : fieldB a n = true) (i : Nat) : (getW x a n).getLsbD i = (decide (i < n.toNat) && x.getLsbD (a.toNat + i)) := by
  obtain ⟨h0, h1, _, _⟩ := fieldB_iff.1 h
  unfold getW
  rw [if_pos h, BitVec.getLsbD_and, BitVec.getLsbD_ushiftRight, mask_bit, cutW_in h0 h1, Bool.and_comm]
theorem putV_bit {x : BitVec 64} {a n : Int} {v : BitVec 64} (h : putB a n v = true) (i : Nat) :
    (putV x a n v).getLsbD i = if a.toNat ≤ i ∧ i < a.toNat + n.toNat then v.getLsbD (i - a.toNat) else x.getLsbD i := by
  unfold putB at h
  rw [Bool.and_eq_true] at h
  obtain ⟨hf, hv⟩ := h
  obtain ⟨h0, h1, h2, h3⟩ := fieldB_iff.1 hf
  rw [fitsB_iff, cutW_in h0 h1] at hv
  unfold putV
  by_cases h64 : i < 64
  · simp only [BitVec.getLsbD_or, BitVec.getLsbD_and, BitVec.getLsbD_not, BitVec.getLsbD_shiftLeft, mask_bit, cutW_in h0 h1, h64, decide_true, Bool.true_and]
    by_cases ha : i < a.toNat
    · simp [ha, show ¬ (a.toNat ≤ i) by omega]
    · by_cases hb : i < a.toNat + n.toNat
      · simp [ha, show a.toNat ≤ i by omega, hb, show i - a.toNat < n.toNat by omega]
      · simp [ha, hb, show ¬ (i - a.toNat < n.toNat) by omega, hv (i - a.toNat) (by omega)]
  · rw [BitVec.getLsbD_of_ge _ _ (by omega), if_neg (by omega), BitVec.getLsbD_of_ge _ _ (by omega)]

theorem mask_twice (n : Int) (h0 : 0 ≤ n) (h1 : n < 64) : IntKind.u64.wrap (IntKind.u64.wrap (2 * U (mask n)) + 1) = U (mask (n + 1)) := by
  have hk : 2 ^ n.toNat ≤ 2 ^ 63 := Nat.pow_le_pow_right (by decide) (by omega)
  have hp : 0 < 2 ^ n.toNat := Nat.two_pow_pos _
  rw [IntKind.wrap_u64, IntKind.wrap_u64]
  unfold U
  rw [mask_toNat, mask_toNat, cutW_in h0 (by omega), cutW_in (by omega) (by omega), show (n + 1).toNat = n.toNat + 1 by omega, Nat.pow_succ]
  omega
theorem mask_zero {n : Int} (h : n ≤ 0) : (0 : Int) = U (mask n) := by
  have e : cutW n = 0 := by unfold cutW; split <;> (try split) <;> omega
  unfold U; rw [mask_toNat, e]; rfl
theorem mask_full {n : Int} (h : 64 ≤ n) : (18446744073709551615 : Int) = U (mask n) := by
  have e : cutW n = 64 := by unfold cutW; split <;> (try split) <;> omega
  unfold U; rw [mask_toNat, e]; rfl
theorem fitsB_full {v : BitVec 64} {n : Int} (h : 64 ≤ n) : fitsB v n = true := by
  have e : cutW n = 64 := by unfold cutW; split <;> (try split) <;> omega
  rw [fitsB_iff, e]; intro i hi; exact BitVec.getLsbD_of_ge _ _ hi
theorem fitsB_U (v : BitVec 64) (n : Int) : fitsB v n = decide (U v ≤ U (mask n)) := by
  rw [fitsB_le]; exact decide_eq_decide.2 U_le.symm

/-! ### Bit by bit -/
theorem one_bit (x : BitVec 64) (j : Nat) : bits .and .u64 (U x / 2 ^ j) 1 = if x.getLsbD j = true then 1 else 0 := by
  have e1 : (1 : Int) = U 1#64 := rfl
  have key : (x >>> j) &&& 1#64 = if x.getLsbD j = true then 1#64 else 0#64 := by
    apply BitVec.eq_of_getLsbD_eq
    intro i hi
    rw [BitVec.getLsbD_and, BitVec.getLsbD_ushiftRight, BitVec.getLsbD_one]
    by_cases h : i = 0
    · subst h
      cases hx : x.getLsbD j <;> simp
    · cases hx : x.getLsbD j <;> simp [h]
  rw [e1, shr_U, and_U, key]
  cases hx : x.getLsbD j <;> rfl
theorem one_bit_eq (x : BitVec 64) (j : Nat) : (bits .and .u64 (U x / 2 ^ j) 1 == 1) = x.getLsbD j := by
  rw [one_bit]; cases x.getLsbD j <;> rfl
theorem one_bit_ne (x y : BitVec 64) (i j : Nat) : (bits .and .u64 (U x / 2 ^ i) 1 != bits .and .u64 (U y / 2 ^ j) 1) = (x.getLsbD i != y.getLsbD j) := by
  rw [one_bit, one_bit]; cases x.getLsbD i <;> cases y.getLsbD j <;> rfl
theorem one_shl (k : Nat) : IntKind.u64.wrap (2 ^ k) = U (1#64 <<< k) := by
  have h := shl_U 1#64 k
  have e1 : U 1#64 = 1 := rfl
  rwa [e1, Int.one_mul] at h

/-- The k lowest bits of a field. -/
def getTo (x : BitVec 64) (a : Nat) (k : Nat) : BitVec 64 := (x >>> a) &&& mask k
theorem getTo_bit (x : BitVec 64) (a k i : Nat) (h : k ≤ 64) : (getTo x a k).getLsbD i = (x.getLsbD (a + i) && decide (i < k)) := by
  unfold getTo
  rw [BitVec.getLsbD_and, BitVec.getLsbD_ushiftRight, mask_bit, cutW_in (by omega) (by omega), Int.toNat_natCast]
theorem getTo_zero (x : BitVec 64) (a : Nat) : U (getTo x a 0) = 0 := by
  have : getTo x a 0 = 0#64 := by
    apply BitVec.eq_of_getLsbD_eq; intro i hi; rw [getTo_bit _ _ _ _ (by omega)]; simp
  rw [this]; rfl
theorem add_or {x y : BitVec 64} (h : x &&& y = 0#64) : x + y = x ||| y := BitVec.add_eq_or_of_and_eq_zero x y h
theorem getTo_one (x : BitVec 64) (a k : Nat) (h : k < 64) (hb : x.getLsbD (a + k) = true) :
    IntKind.u64.wrap (U (getTo x a k) + IntKind.u64.wrap (2 ^ k)) = U (getTo x a (k + 1)) := by
  rw [one_shl, add_U, U_inj, add_or]
  · apply BitVec.eq_of_getLsbD_eq
    intro i hi
    rw [BitVec.getLsbD_or, getTo_bit _ _ _ _ (by omega), getTo_bit _ _ _ _ (by omega), BitVec.getLsbD_shiftLeft, BitVec.getLsbD_one]
    by_cases e : i = k
    · subst e; simp [hb, h]
    · by_cases e2 : i < k
      · simp [e2, show i < k + 1 by omega]
      · simp [e2, show ¬ i < k + 1 by omega]; omega
  · apply BitVec.eq_of_getLsbD_eq
    intro i hi
    rw [BitVec.getLsbD_and, getTo_bit _ _ _ _ (by omega), BitVec.getLsbD_shiftLeft]
    by_cases e2 : i < k
    · simp [e2]
    · simp [e2]
theorem getTo_none (x : BitVec 64) (a k : Nat) (h : k < 64) (hb : x.getLsbD (a + k) = false) : getTo x a k = getTo x a (k + 1) := by
  apply BitVec.eq_of_getLsbD_eq
  intro i hi
  rw [getTo_bit _ _ _ _ (by omega), getTo_bit _ _ _ _ (by omega)]
  by_cases e : i = k
  · subst e; simp [hb]
  · have : i < k ↔ i < k + 1 := by omega
    simp [this]
theorem getTo_all (x : BitVec 64) (a n : Nat) (h : fieldB a n = true) : getTo x a n = getW x a n := by
  unfold getTo getW; rw [if_pos h, Int.toNat_natCast]

/-- A word with the k lowest bits of a number in a field. -/
def putTo (x : BitVec 64) (a : Nat) (v : BitVec 64) (k : Nat) : BitVec 64 := putV x a k (v &&& mask k)
theorem putTo_bit (x : BitVec 64) (a : Nat) (v : BitVec 64) (k i : Nat) (h : a + k ≤ 64) :
    (putTo x a v k).getLsbD i = if a ≤ i ∧ i < a + k then v.getLsbD (i - a) else x.getLsbD i := by
  have hp : putB a k (v &&& mask k) = true := by
    unfold putB; rw [fitsB_and, fieldB_iff.2 ⟨by omega, by omega, by omega, by omega⟩]; rfl
  unfold putTo
  rw [putV_bit hp, Int.toNat_natCast, Int.toNat_natCast, BitVec.getLsbD_and, mask_bit, cutW_in (by omega) (by omega), Int.toNat_natCast]
  split
  · rw [decide_eq_true (by omega), Bool.and_true]
  · rfl
theorem putTo_zero (x : BitVec 64) (a : Nat) (v : BitVec 64) (h : a ≤ 64) : putTo x a v 0 = x := by
  apply BitVec.eq_of_getLsbD_eq; intro i hi; rw [putTo_bit _ _ _ _ _ (by omega), if_neg (by omega)]
theorem putTo_flip (x : BitVec 64) (a : Nat) (v : BitVec 64) (k : Nat) (h : a + k < 64) (hb : ((putTo x a v k).getLsbD (a + k) != v.getLsbD k) = true) :
    bits .xor .u64 (U (putTo x a v k)) (IntKind.u64.wrap (2 ^ (a + k))) = U (putTo x a v (k + 1)) := by
  rw [putTo_bit _ _ _ _ _ (by omega), if_neg (by omega)] at hb
  rw [one_shl, xor_U, U_inj]
  apply BitVec.eq_of_getLsbD_eq
  intro i hi
  rw [BitVec.getLsbD_xor, putTo_bit _ _ _ _ _ (by omega), putTo_bit _ _ _ _ _ (by omega), BitVec.getLsbD_shiftLeft, BitVec.getLsbD_one]
  by_cases e : i = a + k
  · subst e
    rw [if_neg (by omega), if_pos (by omega), show a + k - a = k by omega]
    rw [show a + k - (a + k) = 0 by omega]
    generalize x.getLsbD (a + k) = p at *
    generalize v.getLsbD k = q at *
    cases p <;> cases q <;> simp [h] at hb ⊢
  · have e2 : (a ≤ i ∧ i < a + (k + 1)) ↔ (a ≤ i ∧ i < a + k) := by omega
    simp only [e2]
    by_cases e3 : i < a + k
    · simp [e3]
    · simp [show ¬ (i - (a + k) = 0) by omega]
theorem putTo_keep (x : BitVec 64) (a : Nat) (v : BitVec 64) (k : Nat) (h : a + k < 64) (hb : ((putTo x a v k).getLsbD (a + k) != v.getLsbD k) = false) :
    putTo x a v k = putTo x a v (k + 1) := by
  rw [putTo_bit _ _ _ _ _ (by omega), if_neg (by omega)] at hb
  apply BitVec.eq_of_getLsbD_eq
  intro i hi
  rw [putTo_bit _ _ _ _ _ (by omega), putTo_bit _ _ _ _ _ (by omega)]
  by_cases e : i = a + k
  · subst e
    rw [if_neg (by omega), if_pos (by omega), show a + k - a = k by omega]
    simpa using hb
  · have e2 : (a ≤ i ∧ i < a + (k + 1)) ↔ (a ≤ i ∧ i < a + k) := by omega
    simp only [e2]
theorem and_mask_of_fits {v : BitVec 64} {n : Int} (h : fitsB v n = true) : v &&& mask n = v := by
  rw [fitsB_iff] at h
  apply BitVec.eq_of_getLsbD_eq
  intro i hi
  rw [BitVec.getLsbD_and, mask_bit]
  by_cases e : i < cutW n
  · simp [e]
  · rw [h i (by omega), Bool.false_and]
theorem putTo_all (x : BitVec 64) (a n : Nat) (v : BitVec 64) (h : fitsB v n = true) : putTo x a v n = putV x a n v := by
  unfold putTo; rw [and_mask_of_fits h]
end Go.Proofs.YtkopplnjomkleaaGreat.W64

/-
  The contracts of package bits.
-/
namespace Go.Proofs.YtkopplnjomkleaaGreat
open W64

theorem mask_hi {n : Int} (h : 64 < n) : IntKind.u64.wrap (IntKind.u64.wrap 18446744073709551616 - 1) = U (mask n) := by
  have e : cutW n = 64 := by unfold cutW; rw [if_neg (by omega), if_pos h]
  unfold U; rw [mask_toNat, e]; rfl
theorem mask_lo {n : Int} (h : n < 0) : IntKind.u64.wrap (IntKind.u64.wrap 1 - 1) = U (mask n) := by
  have e : cutW n = 0 := by unfold cutW; rw [if_pos h]
  unfold U; rw [mask_toNat, e]; rfl
theorem mask_mid {n : Int} (h0 : 0 ≤ n) (h1 : n ≤ 64) : IntKind.u64.wrap (IntKind.u64.wrap (2 ^ n.toNat) - 1) = U (mask n) := by
  have h := shl_U 1#64 n.toNat
  have e1 : U 1#64 = 1 := rfl
  rw [e1, Int.one_mul] at h
  rw [h, ← e1, sub_U]
  unfold mask; rw [cutW_in h0 h1]

set_option maxHeartbeats 400000 in
theorem mask_any (n : Int) (w : World) :
    Calls Tryz.prog 154 #[.int .i64 n] w fun e w' => e = .returned (.int .u64 (U (mask n))) ∧ w = w' := by
  by_cases h0 : n < 0
  · go_enter Tryz.func154, Tryz.ntmps154
    go_wp2
    go_ret
    exact ⟨ret_int (mask_lo h0), rfl⟩
  · by_cases h1 : 64 < n
    · go_enter Tryz.func154, Tryz.ntmps154
      go_wp2
      go_ret
      exact ⟨ret_int (mask_hi h1), rfl⟩
    · go_enter Tryz.func154, Tryz.ntmps154
      go_wp2
      go_ret
      exact ⟨ret_int (mask_mid (by omega) (by omega)), rfl⟩

set_option maxHeartbeats 400000 in
theorem isField_any (a n : Int) (w : World) :
    Calls Tryz.prog 153 #[.int .i64 a, .int .i64 n] w fun e w' => e = .returned (.bool (fieldB a n)) ∧ w = w' := by
  go_enter Tryz.func153, Tryz.ntmps153
  go_wp2
  all_goals
    go_ret
    refine ⟨ret_bool ?_, rfl⟩
    unfold fieldB
    simp [*]
  all_goals omega

set_option maxHeartbeats 400000 in
theorem fits_any (v : BitVec 64) (n : Int) (w : World) :
    Calls Tryz.prog 158 #[.int .u64 (U v), .int .i64 n] w fun e w' => e = .returned (.bool (fitsB v n)) ∧ w = w' := by
  go_enter Tryz.func158, Tryz.ntmps158
  go_wp2_with (go_at_call 154; refine (mask_any _ _).mono ?_; rintro e w' ⟨rfl, rfl⟩)
  go_ret
  refine ⟨ret_bool ?_, rfl⟩
  rw [andNot_U]
  exact U_beq _ 0#64

set_option maxHeartbeats 400000 in
theorem get_any (x : BitVec 64) (a n : Int) (w : World) :
    Calls Tryz.prog 147 #[.int .u64 (U x), .int .i64 a, .int .i64 n] w fun e w' => e = .returned (.int .u64 (U (getW x a n))) ∧ ∃ m, w' = w.drewN m := by
  by_cases hf : fieldB a n = true
  · obtain ⟨h0, h1, h2, h3⟩ := fieldB_iff.1 hf
    go_enter Tryz.func147, Tryz.ntmps147
    go_wp2_with (go_at_call 153; refine (isField_any _ _ _).mono ?_; rintro e w' ⟨rfl, rfl⟩)
    go_quiet ((go_at_call 154; exact quiet_eq (mask_any _ _)))
    go_wp2
    go_ret
    refine ⟨ret_int ?_, nq, rfl⟩
    rw [shr_U, and_U]
    unfold getW; rw [hf]; rfl
  · have hf' : fieldB a n = false := by simpa using hf
    go_enter Tryz.func147, Tryz.ntmps147
    go_wp2_with (go_at_call 153; refine (isField_any _ _ _).mono ?_; rintro e w' ⟨rfl, rfl⟩)
    go_ret
    refine ⟨ret_int ?_, 0, rfl⟩
    unfold getW; rw [hf']; rfl


set_option maxHeartbeats 400000 in
theorem put_no (x : BitVec 64) (a n : Int) (v : BitVec 64) (w : World) (h : putB a n v = false) :
    Calls Tryz.prog 152 #[.int .u64 (U x), .int .i64 a, .int .i64 n, .int .u64 (U v)] w fun e w' => e = .returned (.tuple #[.int .u64 0, .bool false]) ∧ w = w' := by
  unfold putB at h
  by_cases hf : fieldB a n = true
  · have hv : fitsB v n = false := by simpa [hf] using h
    clear h
    go_enter Tryz.func152, Tryz.ntmps152
    go_wp2_with (first
      | (go_at_call 153; refine (isField_any _ _ _).mono ?_; rintro e w' ⟨rfl, rfl⟩)
      | (go_at_call 158; refine (fits_any _ _ _).mono ?_; rintro e w' ⟨rfl, rfl⟩))
    go_ret2
    exact ⟨rfl, rfl⟩
  · have hf' : fieldB a n = false := by simpa using hf
    clear h hf
    go_enter Tryz.func152, Tryz.ntmps152
    go_wp2_with (first
      | (go_at_call 153; refine (isField_any _ _ _).mono ?_; rintro e w' ⟨rfl, rfl⟩)
      | (go_at_call 158; refine (fits_any _ _ _).mono ?_; rintro e w' ⟨rfl, rfl⟩))
    go_ret2
    exact ⟨rfl, rfl⟩

set_option maxHeartbeats 400000 in
theorem put_yes (x : BitVec 64) (a n : Int) (v : BitVec 64) (w : World) (h : putB a n v = true) :
    Calls Tryz.prog 152 #[.int .u64 (U x), .int .i64 a, .int .i64 n, .int .u64 (U v)] w fun e w' => e = .returned (.tuple #[.int .u64 (U (putV x a n v)), .bool true]) ∧ ∃ m, w' = w.drewN m := by
  unfold putB at h
  rw [Bool.and_eq_true] at h
  obtain ⟨hf, hv⟩ := h
  obtain ⟨h0, h1, h2, h3⟩ := fieldB_iff.1 hf
  go_enter Tryz.func152, Tryz.ntmps152
  go_wp2_with (first
    | (go_at_call 153; refine (isField_any _ _ _).mono ?_; rintro e w' ⟨rfl, rfl⟩)
    | (go_at_call 158; refine (fits_any _ _ _).mono ?_; rintro e w' ⟨rfl, rfl⟩))
  go_quiet ((go_at_call 154; exact quiet_eq (mask_any _ _)))
  go_wp2
  go_ret2
  refine ⟨ret_two ?_, nq, rfl⟩
  rw [shl_U, shl_U, andNot_U, or_U]
  rfl

end Go.Proofs.YtkopplnjomkleaaGreat

/-
  Fields of a word as plain numbers: what get and put come to by division and sum. Plain facts: no program is named here.
-/
namespace Go.Proofs.YtkopplnjomkleaaGreat.W64

theorem field_lit {a n : Int} (h0 : 0 ≤ n) (h1 : n ≤ 64) (h2 : 0 ≤ a) (h3 : a ≤ 64 - n) : fieldB a n = true := fieldB_iff.2 ⟨h0, h1, h2, h3⟩
theorem get_num (x : BitVec 64) {a n : Int} {P Q : Nat} (h : fieldB a n = true) (hP : 2 ^ a.toNat = P) (hQ : 2 ^ n.toNat = Q) : U (getW x a n) = U x / P % Q := by
  obtain ⟨h0, h1, _, _⟩ := fieldB_iff.1 h
  unfold getW U
  rw [if_pos h, BitVec.toNat_and, BitVec.toNat_ushiftRight, mask_toNat, cutW_in h0 h1, Nat.and_two_pow_sub_one_eq_mod, Nat.shiftRight_eq_div_pow, hP, hQ]
  rfl
theorem fits_num {v : BitVec 64} {n : Int} {Q : Nat} (h0 : 0 ≤ n) (h1 : n ≤ 64) (hQ : 2 ^ n.toNat = Q) (hv : U v < Q) : fitsB v n = true := by
  rw [fitsB_le, decide_eq_true_iff, BitVec.le_def, mask_toNat, cutW_in h0 h1, hQ]
  unfold U at hv; omega
theorem put_num (x v : BitVec 64) {a n : Int} {P Q : Nat} (h : fieldB a n = true) (hP : 2 ^ a.toNat = P) (hQ : 2 ^ n.toNat = Q) (hx : U x < P) (hv : U v < Q) (hPQ : P * Q ≤ 18446744073709551616) :
    U (putV x a n v) = U x + U v * P := by
  obtain ⟨h0, h1, h2, h3⟩ := fieldB_iff.1 h
  have hp : putB a n v = true := by unfold putB; rw [h, fits_num h0 h1 hQ hv]; rfl
  have e : putV x a n v = x ||| (v <<< a.toNat) := by
    apply BitVec.eq_of_getLsbD_eq
    intro i hi
    rw [putV_bit hp, BitVec.getLsbD_or, BitVec.getLsbD_shiftLeft]
    have hxb : ∀ j, a.toNat ≤ j → x.getLsbD j = false := by
      intro j hj
      have : x.toNat < 2 ^ j := Nat.lt_of_lt_of_le (by rw [← hP] at hx; unfold U at hx; omega) (Nat.pow_le_pow_right (by decide) hj)
      exact Nat.testBit_lt_two_pow this
    have hvb : ∀ j, n.toNat ≤ j → v.getLsbD j = false := by
      intro j hj
      have : v.toNat < 2 ^ j := Nat.lt_of_lt_of_le (by rw [← hQ] at hv; unfold U at hv; omega) (Nat.pow_le_pow_right (by decide) hj)
      exact Nat.testBit_lt_two_pow this
    by_cases c : a.toNat ≤ i ∧ i < a.toNat + n.toNat
    · rw [if_pos c, hxb i c.1]; simp [hi, show ¬ i < a.toNat by omega]
    · rw [if_neg c]
      by_cases c2 : i < a.toNat
      · simp [c2]
      · rw [hxb i (by omega), hvb _ (by omega)]; simp
  have hand : x &&& (v <<< a.toNat) = 0#64 := by
    apply BitVec.eq_of_getLsbD_eq
    intro i hi
    rw [BitVec.getLsbD_and, BitVec.getLsbD_shiftLeft, BitVec.getLsbD_zero]
    by_cases c : i < a.toNat
    · simp [c]
    · have : x.toNat < 2 ^ i := Nat.lt_of_lt_of_le (by rw [← hP] at hx; unfold U at hx; omega) (Nat.pow_le_pow_right (by decide) (Nat.le_of_not_lt c))
      have : x.getLsbD i = false := Nat.testBit_lt_two_pow this
      rw [this, Bool.false_and]
  rw [e, ← add_or hand]
  unfold U at *
  have hP0 : 0 < P := by omega
  have hmul : v.toNat * P + x.toNat < 18446744073709551616 := by
    have : v.toNat + 1 ≤ Q := by omega
    have := Nat.mul_le_mul_right P this
    rw [Nat.add_mul, Nat.one_mul] at this
    have h5 : Q * P = P * Q := Nat.mul_comm _ _
    omega
  rw [BitVec.toNat_add, BitVec.toNat_shiftLeft, Nat.shiftLeft_eq, hP, Nat.mod_eq_of_lt (a := v.toNat * P) (by omega), Nat.mod_eq_of_lt (by omega)]
  push_cast; omega
theorem U_mk {n : Int} (h0 : 0 ≤ n) (h1 : n < 18446744073709551616) : U (BitVec.ofNat 64 n.toNat) = n := by
  rw [U_ofNat _ (by omega)]; omega

/-- From least to most. -/
def inB (n a b : Int) : Bool := decide (a ≤ n) && decide (n ≤ b)
theorem inB_iff {n a b : Int} : inB n a b = true ↔ a ≤ n ∧ n ≤ b := by unfold inB; simp
theorem inB_no {n a b : Int} : inB n a b = false ↔ n < a ∨ b < n := by
  rw [← Bool.not_eq_true, inB_iff]; omega

/-- Heads: which may be, and their words. -/
def headB (i t : Int) : Bool := inB i (-1) 4294967294 && inB t 0 4294967295
theorem headB_iff {i t : Int} : headB i t = true ↔ (-1 ≤ i ∧ i ≤ 4294967294) ∧ (0 ≤ t ∧ t ≤ 4294967295) := by
  unfold headB; rw [Bool.and_eq_true, inB_iff, inB_iff]
def headN (i t : Int) : Int := i + 1 + t * 4294967296
/-- Roots. -/
def rootB (g m c o : Int) : Bool := inB g 0 4294967295 && (inB m 0 4097 && (inB c 0 3 && inB o 0 1024))
theorem rootB_iff {g m c o : Int} : rootB g m c o = true ↔ (0 ≤ g ∧ g ≤ 4294967295) ∧ (0 ≤ m ∧ m ≤ 4097) ∧ (0 ≤ c ∧ c ≤ 3) ∧ (0 ≤ o ∧ o ≤ 1024) := by
  unfold rootB; rw [Bool.and_eq_true, Bool.and_eq_true, Bool.and_eq_true, inB_iff, inB_iff, inB_iff, inB_iff]
def rootN (g m c o : Int) : Int := o + c * 4096 + m * 65536 + g * 4294967296
/-- Pins. -/
def pinB (e : Int) : Bool := inB e 0 4611686018427387903
def pinN (e : Int) : Int := 2 * e + 1
def nextT (t : Int) : Int := if inB t 0 4294967294 then t + 1 else 0
def chunkN (m : Int) : Int := if m < 2 then -1 else m - 2
def liveB (g m gen : Int) : Bool := decide (1 ≤ m) && (g == gen)
/-- The words, 0 where there is none. -/
def headV (i t : Int) : Int := if headB i t then headN i t else 0
def rootV (g m c o : Int) : Int := if rootB g m c o then rootN g m c o else 0
def pinV (e : Int) : Int := if pinB e then pinN e else 0
def pinO (x : Int) : Bool := decide (x % 2 = 1)
def pinE (x : Int) : Int := if pinO x then x / 2 else 0
theorem headV_in (i t : Int) : 0 ≤ headV i t ∧ headV i t < 18446744073709551616 := by
  unfold headV; split
  · rename_i h; have := headB_iff.1 h; unfold headN; omega
  · omega
theorem rootV_in (g m c o : Int) : 0 ≤ rootV g m c o ∧ rootV g m c o < 18446744073709551616 := by
  unfold rootV; split
  · rename_i h; have := rootB_iff.1 h; unfold rootN; omega
  · omega
theorem pinV_in (e : Int) : 0 ≤ pinV e ∧ pinV e < 18446744073709551616 := by
  unfold pinV; split
  · rename_i h; unfold pinB at h; have := inB_iff.1 h; unfold pinN; omega
  · omega
theorem u64_in {n : Int} (h : (Lit.int .u64 n).wf = true) : 0 ≤ n ∧ n < 18446744073709551616 := by
  simp [Lit.wf, IntKind.min, IntKind.max, IntKind.bits, IntKind.signed] at h; omega
theorem i64_in {n : Int} (h : (Lit.int .i64 n).wf = true) : -9223372036854775808 ≤ n ∧ n < 9223372036854775808 := by
  simp [Lit.wf, IntKind.min, IntKind.max, IntKind.bits, IntKind.signed] at h; omega
end Go.Proofs.YtkopplnjomkleaaGreat.W64

/-
  The contracts of package word: heads, roots, pins as plain numbers.
-/
namespace Go.Proofs.YtkopplnjomkleaaGreat
open W64

theorem put_at_yes' {x v : Int} (X V : BitVec 64) (hx : x = U X) (hv : v = U V) (a n : Int) (w : World) {r : Int} (h : putB a n V = true) (hr : U (putV X a n V) = r) :
    Calls Tryz.prog 152 #[.int .u64 x, .int .i64 a, .int .i64 n, .int .u64 v] w fun e w' => e = .returned (.tuple #[.int .u64 r, .bool true]) ∧ ∃ m, w' = w.drewN m := by
  subst hx hv hr; exact put_yes X a n V w h
theorem get_at' {x : Int} (X : BitVec 64) (hx : x = U X) (a n : Int) (w : World) {r : Int} (hr : U (getW X a n) = r) :
    Calls Tryz.prog 147 #[.int .u64 x, .int .i64 a, .int .i64 n] w fun e w' => e = .returned (.int .u64 r) ∧ ∃ m, w' = w.drewN m := by
  subst hx hr; exact get_any X a n w

set_option maxHeartbeats 400000 in
theorem within_any (n a b : Int) (w : World) :
    Calls Tryz.prog 143 #[.int .i64 n, .int .i64 a, .int .i64 b] w fun e w' => e = .returned (.bool (inB n a b)) ∧ w = w' := by
  go_enter Tryz.func143, Tryz.ntmps143
  go_wp2
  all_goals
    go_ret
    refine ⟨ret_bool ?_, rfl⟩
    unfold inB
    simp [*]
  all_goals omega

set_option maxHeartbeats 400000 in
theorem wput_any {x v : Int} (a n : Int) (P Q : Nat) (w : World) (hf : fieldB a n = true) (hP : 2 ^ a.toNat = P) (hQ : 2 ^ n.toNat = Q) (hPQ : P * Q ≤ 18446744073709551616)
    (hx0 : 0 ≤ x) (hx : x < P) (hv0 : 0 ≤ v) (hv : v < Q) :
    Calls Tryz.prog 144 #[.int .u64 x, .int .i64 a, .int .i64 n, .int .i64 v] w fun e w' => e = .returned (.int .u64 (x + v * P)) ∧ ∃ m, w' = w.drewN m := by
  have b1 : x < 18446744073709551616 ∧ v < 18446744073709551616 := by
    have p1 : 0 < P := by omega
    have q1 : 0 < Q := by omega
    have := Nat.le_mul_of_pos_right P q1
    have := Nat.le_mul_of_pos_left Q p1
    omega
  have ux := Lib.hid (U_mk hx0 b1.1).symm
  have uv := Lib.hid (U_mk hv0 b1.2).symm
  have hw := Lib.hid (show IntKind.u64.wrap v = v by rw [IntKind.wrap_u64]; omega)
  have hr := Lib.hid (put_num (BitVec.ofNat 64 x.toNat) (BitVec.ofNat 64 v.toNat) hf hP hQ (by rw [← ux.out]; exact hx) (by rw [← uv.out]; exact hv) hPQ)
  have hb := Lib.hid (show putB a n (BitVec.ofNat 64 v.toNat) = true by
    obtain ⟨h0, h1, _, _⟩ := fieldB_iff.1 hf
    unfold putB; rw [hf, fits_num h0 h1 hQ (by rw [← uv.out]; exact hv)]; rfl)
  have F := Lib.hid hf
  clear hf hP hQ
  go_enter Tryz.func144, Tryz.ntmps144
  go_wp2_with (go_at_call 152; refine (put_at_yes' (BitVec.ofNat 64 x.toNat) (BitVec.ofNat 64 v.toNat) ux.out ?_ _ _ _ hb.out hr.out).mono ?_)
  · first | exact uv.out | (rw [hw.out]; exact uv.out)
  · rintro e w' ⟨rfl, m, rfl⟩
    go_wp2
    go_ret
    refine ⟨ret_int ?_, m, rfl⟩
    rw [← ux.out, ← uv.out]

set_option maxHeartbeats 400000 in
theorem wget_any {x : Int} (a n : Int) (P Q : Nat) (w : World) (hf : fieldB a n = true) (hP : 2 ^ a.toNat = P) (hQ : 2 ^ n.toNat = Q) (hQ2 : Q ≤ 9223372036854775808)
    (hx0 : 0 ≤ x) (hx : x < 18446744073709551616) :
    Calls Tryz.prog 133 #[.int .u64 x, .int .i64 a, .int .i64 n] w fun e w' => e = .returned (.int .i64 (x / P % Q)) ∧ ∃ m, w' = w.drewN m := by
  have q1 : 0 < Q := by have := Nat.two_pow_pos n.toNat; omega
  have ux := Lib.hid (U_mk hx0 hx).symm
  have hr := Lib.hid (get_num (BitVec.ofNat 64 x.toNat) hf hP hQ)
  have hw := Lib.hid (show RowKit.wrap64 (x / P % Q) = x / P % Q by
    have := Int.emod_nonneg (x / P) (show (Q : Int) ≠ 0 by omega)
    have := Int.emod_lt_of_pos (x / P) (show (0 : Int) < Q by omega)
    exact wrap64_in (by omega) (by omega))
  have hr' := Lib.hid (show U (getW (BitVec.ofNat 64 x.toNat) a n) = x / P % Q by rw [hr.out, ← ux.out])
  clear hf hP hQ hr
  go_enter Tryz.func133, Tryz.ntmps133
  go_wp2_with (go_at_call 147; refine (get_at' _ ux.out _ _ _ hr'.out).mono ?_; rintro e w' ⟨rfl, m, rfl⟩)
  go_ret
  exact ⟨ret_int hw.out, m, rfl⟩

/-! ### Heads -/
theorem up_box (w : World) (o : Obj) (m : Nat) : Up w ((w.alloc o).drewN m) := (Up.alloc _ _).then_drewN m
theorem up_box2 (w : World) (o p : Obj) : Up w ((w.alloc o).alloc p) := (Up.alloc _ _).then_alloc _

set_option maxHeartbeats 400000 in
theorem putHead_yes (i t : Int) (w : World) (h : headB i t = true) :
    Calls Tryz.prog 119 #[.agg #[.int .i64 i, .int .i64 t]] w fun e w' => e = .returned (.tuple #[.int .u64 (headN i t), .bool true]) ∧ Up w w' := by
  obtain ⟨⟨i0, i1⟩, t0, t1⟩ := headB_iff.1 h
  have c1 := inB_iff.2 ⟨i0, i1⟩
  have c2 := inB_iff.2 ⟨t0, t1⟩
  clear h
  go_enter Tryz.func119, Tryz.ntmps119
  go_wp2_with (first
    | (go_at_call 143; refine (within_any _ _ _ _).mono ?_; rintro e w' ⟨rfl, rfl⟩)
    | (go_at_call 144; (with_reducible refine (wput_any 0 32 1 4294967296 _ (by decide) (by decide) (by decide) (by decide) (by omega) (by omega) (by omega) (by omega)).mono ?_); rintro e w' ⟨rfl, m1, rfl⟩)
    | (go_at_call 144; (with_reducible refine (wput_any 32 32 4294967296 4294967296 _ (by decide) (by decide) (by decide) (by decide) (by omega) (by omega) (by omega) (by omega)).mono ?_); rintro e w' ⟨rfl, m2, rfl⟩))
  go_ret2
  exact ⟨rfl, up_box _ _ _⟩

set_option maxHeartbeats 400000 in
theorem putHead_no (i t : Int) (w : World) (h : headB i t = false) :
    Calls Tryz.prog 119 #[.agg #[.int .i64 i, .int .i64 t]] w fun e w' => e = .returned (.tuple #[.int .u64 0, .bool false]) ∧ Up w w' := by
  unfold headB at h
  cases c1 : inB i (-1) 4294967294
  · clear h
    go_enter Tryz.func119, Tryz.ntmps119
    go_wp2_with (go_at_call 143; refine (within_any _ _ _ _).mono ?_; rintro e w' ⟨rfl, rfl⟩)
    go_ret2
    exact ⟨rfl, up_box _ _ 0⟩
  · rw [c1, Bool.true_and] at h
    go_enter Tryz.func119, Tryz.ntmps119
    go_wp2_with (go_at_call 143; refine (within_any _ _ _ _).mono ?_; rintro e w' ⟨rfl, rfl⟩)
    go_ret2
    exact ⟨rfl, up_box _ _ 0⟩

set_option maxHeartbeats 400000 in
theorem getHead_any (x : Int) (w : World) (h0 : 0 ≤ x) (h1 : x < 18446744073709551616) :
    Calls Tryz.prog 104 #[.int .u64 x] w fun e w' => e = .returned (.agg #[.int .i64 (x % 4294967296 - 1), .int .i64 (x / 4294967296)]) ∧ Up w w' := by
  have hq := Lib.hid (show x / 4294967296 % 4294967296 = x / 4294967296 by omega)
  go_enter Tryz.func104, Tryz.ntmps104
  go_wp2_with (first
    | (go_at_call 133; (with_reducible refine (wget_any 0 32 1 4294967296 _ (by decide) (by decide) (by decide) (by decide) (by omega) (by omega)).mono ?_); rintro e w' ⟨rfl, m1, rfl⟩)
    | (go_at_call 133; (with_reducible refine (wget_any 32 32 4294967296 4294967296 _ (by decide) (by decide) (by decide) (by decide) (by omega) (by omega)).mono ?_); rintro e w' ⟨rfl, m2, rfl⟩))
  refine bodyPost_ret (v := .agg #[.int .i64 (x % 4294967296 - 1), .int .i64 (x / 4294967296)]) (by simp [results, Tryz.results104, go_sem, hq.out]) rfl ⟨rfl, ?_⟩
  exact ((up_box _ _ _).setCell (Nat.le_refl _) _).setCell (Nat.le_refl _) _

set_option maxHeartbeats 400000 in
theorem next_exact (i t index : Int) (w : World) :
    Calls Tryz.prog 162 #[.agg #[.int .i64 i, .int .i64 t], .int .i64 index] w fun e w' => e = .returned (.agg #[.int .i64 index, .int .i64 (nextT t)]) ∧ (w.alloc (.cells #[.int .i64 i, .int .i64 t] 161)).alloc (.cells #[.int .i64 index, .int .i64 (nextT t)] 161) = w' := by
  cases c1 : inB t 0 4294967294
  · have e1 : nextT t = 0 := by unfold nextT; rw [c1]; rfl
    rw [e1]; clear e1
    go_enter Tryz.func162, Tryz.ntmps162
    go_wp2_with (go_at_call 143; refine (within_any _ _ _ _).mono ?_; rintro e w' ⟨rfl, rfl⟩)
    refine bodyPost_ret (v := .agg #[.int .i64 index, .int .i64 0]) (by simp [results, Tryz.results162, go_sem]) rfl ⟨rfl, rfl⟩
  · have e1 : nextT t = t + 1 := by unfold nextT; rw [c1]; rfl
    obtain ⟨t0, t1⟩ := inB_iff.1 c1
    rw [e1]; clear e1
    go_enter Tryz.func162, Tryz.ntmps162
    go_wp2_with (go_at_call 143; refine (within_any _ _ _ _).mono ?_; rintro e w' ⟨rfl, rfl⟩)
    refine bodyPost_ret (v := .agg #[.int .i64 index, .int .i64 (t + 1)]) (by simp [results, Tryz.results162, go_sem]) rfl ⟨rfl, rfl⟩
theorem next_any (i t index : Int) (w : World) :
    Calls Tryz.prog 162 #[.agg #[.int .i64 i, .int .i64 t], .int .i64 index] w fun e w' => e = .returned (.agg #[.int .i64 index, .int .i64 (nextT t)]) ∧ Up w w' :=
  (next_exact i t index w).mono fun _ _ ⟨he, hw⟩ => ⟨he, hw ▸ up_box2 _ _ _⟩

/-! ### Roots -/
/-! ### Pins -/
theorem putHead_any (i t : Int) (w : World) :
    Calls Tryz.prog 119 #[.agg #[.int .i64 i, .int .i64 t]] w fun e w' => e = .returned (.tuple #[.int .u64 (headV i t), .bool (headB i t)]) ∧ Up w w' := by
  unfold headV
  cases h : headB i t
  · exact putHead_no i t w h
  · exact putHead_yes i t w h
end Go.Proofs.YtkopplnjomkleaaGreat

/-
  What every package over cells uses: words in each cell (St.Ok), method values, stores elsewhere.
-/
namespace Go.Proofs.YtkopplnjomkleaaGreat
open Go.RowKit
open W64
set_option maxRecDepth 100000

/-- Each cell holds a word. -/
def St.Ok (s : St) : Prop := ∀ i, 0 ≤ s.get i ∧ s.get i < 18446744073709551616
theorem getD_set {xs : List Int} {i j : Nat} {v : Int} : (xs.set i v).getD j 0 = if i = j ∧ j < xs.length then v else xs.getD j 0 := by
  unfold List.getD
  by_cases e : i = j
  · subst e
    by_cases h : i < xs.length
    · simp [h]
    · simp [h]
  · simp [e]
theorem St.Ok.lay {s : St} (h : s.Ok) (i : Int) {v : Int} (h0 : 0 ≤ v) (h1 : v < 18446744073709551616) : (s.lay i v).Ok := by
  intro j
  unfold St.lay St.get
  dsimp only
  rw [getD_set]
  split
  · exact ⟨h0, h1⟩
  · exact h j
theorem St.Ok.hit {s : St} (h : s.Ok) (k i : Int) {v : Int} (y : Bool) (h0 : 0 ≤ v) (h1 : v < 18446744073709551616) : (s.hit k i v y).Ok := by
  have := h.lay i h0 h1
  exact this
theorem St.Ok.zero (n : Nat) : (St.zero n).Ok := by
  intro i
  unfold St.get St.zero
  dsimp only
  have : (List.replicate n (0 : Int)).getD i.toNat 0 = 0 := by
    unfold List.getD
    by_cases h : i.toNat < n <;> simp [h]
  rw [this]; decide
instance (s : St) (i : Int) : Decidable (s.has i) := inferInstanceAs (Decidable (_ ∧ _))
theorem hit_len (s : St) (k i v : Int) (y : Bool) : (s.hit k i v y).xs.length = s.xs.length := by simp [St.hit]
theorem lay_len (s : St) (i v : Int) : (s.lay i v).xs.length = s.xs.length := by simp [St.lay]
/-- A method value of the machine at b. -/
def meth (f : FuncId) (b : Nat) : Value := .func (.func f) #[.pointer (some ⟨b, 0, none⟩)] #[]
theorem run_func (fn : Fn) (first cap : Array Value) (w : World) : (Instr.makeFunc fn first cap).run Tryz.prog w = .ok (.func fn first cap) w := rfl
theorem run_eql_func (f : Fn) (x y : Array Value) (w : World) : (binOp .eql 1 (.func f x y) .nilFunc).run Tryz.prog w = .ok (.bool false) w := by rfl
theorem run_eql_nilFunc (w : World) : (binOp .eql 1 .nilFunc .nilFunc).run Tryz.prog w = .ok (.bool true) w := by rfl
theorem kept_set {w : World} {p a : Addr} {v x : Value} (h : p ≠ a) (hc : w.cell? a = some x) : (w.setCell p v).cell? a = some x := by rw [World.cell?_setCell_other (h := h)]; exact hc
theorem ad_ne {a b i j : Nat} (h : a ≠ b) : (⟨a, i, none⟩ : Addr) ≠ ⟨b, j, none⟩ := fun e => h (congrArg Addr.block e)
theorem off_ne {a i j : Nat} (h : i ≠ j) : (⟨a, i, none⟩ : Addr) ≠ ⟨a, j, none⟩ := fun e => h (congrArg Addr.off e)
theorem not_three {a b c d : Nat} (h1 : a ≠ b) (h2 : a ≠ c) (h3 : a ≠ d) : a ∉ [b, c, d] := by simp [h1, h2, h3]
theorem else_self {w a : World} {t : List Nat} {b o : Nat} {u : Value} (h : Else t w a) (hb : b ∈ t) : Else t w (a.setCell ⟨b, o, none⟩ u) := h.set (.inl hb) u
theorem Else.wide {p g : Nat} {a c : World} (h : Else [p, g] a c) (b : Nat) : Else [b, p, g] a c := h.more (by intro k hk; simp at hk ⊢; exact .inr hk)
theorem Else.wide1 {b : Nat} {a c : World} (h : Else [b] a c) (p g : Nat) : Else [b, p, g] a c := h.more (by intro k hk; simp at hk ⊢; exact .inl hk)
theorem read_xs (s : St) (k i : Int) (y : Bool) : (s.hit k i (s.get i) y).xs = s.xs := by
  unfold St.hit St.get
  dsimp only
  refine List.ext_getElem? fun j => ?_
  rw [List.getElem?_set]
  split
  · rename_i e; subst e
    split
    · rename_i h; simp [List.getD, h]
    · rename_i h; simp at h; simp [h]
  · rfl
end Go.Proofs.YtkopplnjomkleaaGreat
