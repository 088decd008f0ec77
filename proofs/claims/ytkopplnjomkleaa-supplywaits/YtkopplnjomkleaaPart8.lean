/-
  Texts beneath SupplyWaits, part 8: Bits, WordMath, Word, CellsMore, Stack0.
-/
import Derived.Test.YtkopplnjomkleaaPart7
import Derived.Test.YtkopplnjomkleaaRows
import Derived.WalkKit
import Derived.ProofKit
import Derived.Deep.QuietTactic
import Derived.BigQuiet
import Derived.Lib.Hide
import Derived.Deep.RegionHeld3
import Derived.Deep.DrawnRows
import Derived.StillTailTactics
import Derived.Deep.DeepCutAuto
import Derived.Laws.EntriesVeiled
/-
  The contracts of package bits.
-/
namespace Go.Proofs.Ytkopplnjomkleaa
open W64

theorem mask_hi {n : Int} (h : 64 < n) : IntKind.u64.wrap (IntKind.u64.wrap 18446744073709551616 - 1) = U (mask n) := by
  have e : cutW n = 64 := by unfold cutW; rw [if_neg (by omega), if_pos h]
  unfold U; rw [mask_toNat, e]; rfl
theorem mask_lo {n : Int} (h : n < 0) : IntKind.u64.wrap (IntKind.u64.wrap 1 - 1) = U (mask n) := by
  have e : cutW n = 0 := by unfold cutW; rw [if_pos h]
  unfold U; rw [mask_toNat, e]; rfl
theorem mask_mid {n : Int} (h0 : 0 ≤ n) (h1 : n ≤ 64) : IntKind.u64.wrap (IntKind.u64.wrap (2 ^ n.toNat) - 1) = U (mask n) := by
  have h := shl_U 1#64 n.toNat
  have e1 : U 1#64 = 1 := rfl
  rw [e1, Int.one_mul] at h
  rw [h, ← e1, sub_U]
  unfold mask; rw [cutW_in h0 h1]

set_option maxHeartbeats 400000 in
theorem mask_any (n : Int) (w : World) :
    Calls Try.prog 94 #[.int .i64 n] w fun e w' => e = .returned (.int .u64 (U (mask n))) ∧ w = w' := by
  by_cases h0 : n < 0
  · go_enter Try.func94, Try.ntmps94
    go_wp2
    go_ret
    exact ⟨ret_int (mask_lo h0), rfl⟩
  · by_cases h1 : 64 < n
    · go_enter Try.func94, Try.ntmps94
      go_wp2
      go_ret
      exact ⟨ret_int (mask_hi h1), rfl⟩
    · go_enter Try.func94, Try.ntmps94
      go_wp2
      go_ret
      exact ⟨ret_int (mask_mid (by omega) (by omega)), rfl⟩

set_option maxHeartbeats 400000 in
theorem isField_any (a n : Int) (w : World) :
    Calls Try.prog 93 #[.int .i64 a, .int .i64 n] w fun e w' => e = .returned (.bool (fieldB a n)) ∧ w = w' := by
  go_enter Try.func93, Try.ntmps93
  go_wp2
  all_goals
    go_ret
    refine ⟨ret_bool ?_, rfl⟩
    unfold fieldB
    simp [*]
  all_goals omega

set_option maxHeartbeats 400000 in
theorem fits_any (v : BitVec 64) (n : Int) (w : World) :
    Calls Try.prog 96 #[.int .u64 (U v), .int .i64 n] w fun e w' => e = .returned (.bool (fitsB v n)) ∧ w = w' := by
  go_enter Try.func96, Try.ntmps96
  go_wp2_with (go_at_call 94; refine (mask_any _ _).mono ?_; rintro e w' ⟨rfl, rfl⟩)
  go_ret
  refine ⟨ret_bool ?_, rfl⟩
  rw [andNot_U]
  exact U_beq _ 0#64

set_option maxHeartbeats 400000 in
theorem get_any (x : BitVec 64) (a n : Int) (w : World) :
    Calls Try.prog 89 #[.int .u64 (U x), .int .i64 a, .int .i64 n] w fun e w' => e = .returned (.int .u64 (U (getW x a n))) ∧ ∃ m, w' = w.drewN m := by
  by_cases hf : fieldB a n = true
  · obtain ⟨h0, h1, h2, h3⟩ := fieldB_iff.1 hf
    go_enter Try.func89, Try.ntmps89
    go_wp2_with (go_at_call 93; refine (isField_any _ _ _).mono ?_; rintro e w' ⟨rfl, rfl⟩)
    go_quiet ((go_at_call 94; exact quiet_eq (mask_any _ _)))
    go_wp2
    go_ret
    refine ⟨ret_int ?_, nq, rfl⟩
    rw [shr_U, and_U]
    unfold getW; rw [hf]; rfl
  · have hf' : fieldB a n = false := by simpa using hf
    go_enter Try.func89, Try.ntmps89
    go_wp2_with (go_at_call 93; refine (isField_any _ _ _).mono ?_; rintro e w' ⟨rfl, rfl⟩)
    go_ret
    refine ⟨ret_int ?_, 0, rfl⟩
    unfold getW; rw [hf']; rfl


set_option maxHeartbeats 400000 in
theorem put_no (x : BitVec 64) (a n : Int) (v : BitVec 64) (w : World) (h : putB a n v = false) :
    Calls Try.prog 92 #[.int .u64 (U x), .int .i64 a, .int .i64 n, .int .u64 (U v)] w fun e w' => e = .returned (.tuple #[.int .u64 0, .bool false]) ∧ w = w' := by
  unfold putB at h
  by_cases hf : fieldB a n = true
  · have hv : fitsB v n = false := by simpa [hf] using h
    clear h
    go_enter Try.func92, Try.ntmps92
    go_wp2_with (first
      | (go_at_call 93; refine (isField_any _ _ _).mono ?_; rintro e w' ⟨rfl, rfl⟩)
      | (go_at_call 96; refine (fits_any _ _ _).mono ?_; rintro e w' ⟨rfl, rfl⟩))
    go_ret2
    exact ⟨rfl, rfl⟩
  · have hf' : fieldB a n = false := by simpa using hf
    clear h hf
    go_enter Try.func92, Try.ntmps92
    go_wp2_with (first
      | (go_at_call 93; refine (isField_any _ _ _).mono ?_; rintro e w' ⟨rfl, rfl⟩)
      | (go_at_call 96; refine (fits_any _ _ _).mono ?_; rintro e w' ⟨rfl, rfl⟩))
    go_ret2
    exact ⟨rfl, rfl⟩

set_option maxHeartbeats 400000 in
theorem put_yes (x : BitVec 64) (a n : Int) (v : BitVec 64) (w : World) (h : putB a n v = true) :
    Calls Try.prog 92 #[.int .u64 (U x), .int .i64 a, .int .i64 n, .int .u64 (U v)] w fun e w' => e = .returned (.tuple #[.int .u64 (U (putV x a n v)), .bool true]) ∧ ∃ m, w' = w.drewN m := by
  unfold putB at h
  rw [Bool.and_eq_true] at h
  obtain ⟨hf, hv⟩ := h
  obtain ⟨h0, h1, h2, h3⟩ := fieldB_iff.1 hf
  go_enter Try.func92, Try.ntmps92
  go_wp2_with (first
    | (go_at_call 93; refine (isField_any _ _ _).mono ?_; rintro e w' ⟨rfl, rfl⟩)
    | (go_at_call 96; refine (fits_any _ _ _).mono ?_; rintro e w' ⟨rfl, rfl⟩))
  go_quiet ((go_at_call 94; exact quiet_eq (mask_any _ _)))
  go_wp2
  go_ret2
  refine ⟨ret_two ?_, nq, rfl⟩
  rw [shl_U, shl_U, andNot_U, or_U]
  rfl

end Go.Proofs.Ytkopplnjomkleaa

/-
  Fields of a word as plain numbers: what get and put come to by division and sum. Plain facts: no program is named here.
-/
namespace Go.Proofs.Ytkopplnjomkleaa.W64

theorem field_lit {a n : Int} (h0 : 0 ≤ n) (h1 : n ≤ 64) (h2 : 0 ≤ a) (h3 : a ≤ 64 - n) : fieldB a n = true := fieldB_iff.2 ⟨h0, h1, h2, h3⟩
theorem get_num (x : BitVec 64) {a n : Int} {P Q : Nat} (h : fieldB a n = true) (hP : 2 ^ a.toNat = P) (hQ : 2 ^ n.toNat = Q) : U (getW x a n) = U x / P % Q := by
  obtain ⟨h0, h1, _, _⟩ := fieldB_iff.1 h
  unfold getW U
  rw [if_pos h, BitVec.toNat_and, BitVec.toNat_ushiftRight, mask_toNat, cutW_in h0 h1, Nat.and_two_pow_sub_one_eq_mod, Nat.shiftRight_eq_div_pow, hP, hQ]
  rfl
theorem fits_num {v : BitVec 64} {n : Int} {Q : Nat} (h0 : 0 ≤ n) (h1 : n ≤ 64) (hQ : 2 ^ n.toNat = Q) (hv : U v < Q) : fitsB v n = true := by
  rw [fitsB_le, decide_eq_true_iff, BitVec.le_def, mask_toNat, cutW_in h0 h1, hQ]
  unfold U at hv; omega
theorem put_num (x v : BitVec 64) {a n : Int} {P Q : Nat} (h : fieldB a n = true) (hP : 2 ^ a.toNat = P) (hQ : 2 ^ n.toNat = Q) (hx : U x < P) (hv : U v < Q) (hPQ : P * Q ≤ 18446744073709551616) :
    U (putV x a n v) = U x + U v * P := by
  obtain ⟨h0, h1, h2, h3⟩ := fieldB_iff.1 h
  have hp : putB a n v = true := by unfold putB; rw [h, fits_num h0 h1 hQ hv]; rfl
  have e : putV x a n v = x ||| (v <<< a.toNat) := by
    apply BitVec.eq_of_getLsbD_eq
    intro i hi
    rw [putV_bit hp, BitVec.getLsbD_or, BitVec.getLsbD_shiftLeft]
    have hxb : ∀ j, a.toNat ≤ j → x.getLsbD j = false := by
      intro j hj
      have : x.toNat < 2 ^ j := Nat.lt_of_lt_of_le (by rw [← hP] at hx; unfold U at hx; omega) (Nat.pow_le_pow_right (by decide) hj)
      exact Nat.testBit_lt_two_pow this
    have hvb : ∀ j, n.toNat ≤ j → v.getLsbD j = false := by
      intro j hj
      have : v.toNat < 2 ^ j := Nat.lt_of_lt_of_le (by rw [← hQ] at hv; unfold U at hv; omega) (Nat.pow_le_pow_right (by decide) hj)
      exact Nat.testBit_lt_two_pow this
    by_cases c : a.toNat ≤ i ∧ i < a.toNat + n.toNat
    · rw [if_pos c, hxb i c.1]; simp [hi, show ¬ i < a.toNat by omega]
    · rw [if_neg c]
      by_cases c2 : i < a.toNat
      · simp [c2]
      · rw [hxb i (by omega), hvb _ (by omega)]; simp
  have hand : x &&& (v <<< a.toNat) = 0#64 := by
    apply BitVec.eq_of_getLsbD_eq
    intro i hi
    rw [BitVec.getLsbD_and, BitVec.getLsbD_shiftLeft, BitVec.getLsbD_zero]
    by_cases c : i < a.toNat
    · simp [c]
    · have : x.toNat < 2 ^ i := Nat.lt_of_lt_of_le (by rw [← hP] at hx; unfold U at hx; omega) (Nat.pow_le_pow_right (by decide) (Nat.le_of_not_lt c))
      have : x.getLsbD i = false := Nat.testBit_lt_two_pow this
      rw [this, Bool.false_and]
  rw [e, ← add_or hand]
  unfold U at *
  have hP0 : 0 < P := by omega
  have hmul : v.toNat * P + x.toNat < 18446744073709551616 := by
    have : v.toNat + 1 ≤ Q := by omega
    have := Nat.mul_le_mul_right P this
    rw [Nat.add_mul, Nat.one_mul] at this
    have h5 : Q * P = P * Q := Nat.mul_comm _ _
    omega
  rw [BitVec.toNat_add, BitVec.toNat_shiftLeft, Nat.shiftLeft_eq, hP, Nat.mod_eq_of_lt (a := v.toNat * P) (by omega), Nat.mod_eq_of_lt (by omega)]
  push_cast; omega
theorem U_mk {n : Int} (h0 : 0 ≤ n) (h1 : n < 18446744073709551616) : U (BitVec.ofNat 64 n.toNat) = n := by
  rw [U_ofNat _ (by omega)]; omega

/-- From least to most. -/
def inB (n a b : Int) : Bool := decide (a ≤ n) && decide (n ≤ b)
theorem inB_iff {n a b : Int} : inB n a b = true ↔ a ≤ n ∧ n ≤ b := by unfold inB; simp
theorem inB_no {n a b : Int} : inB n a b = false ↔ n < a ∨ b < n := by
  rw [← Bool.not_eq_true, inB_iff]; omega

/-- Heads: which may be, and their words. -/
def headB (i t : Int) : Bool := inB i (-1) 4294967294 && inB t 0 4294967295
theorem headB_iff {i t : Int} : headB i t = true ↔ (-1 ≤ i ∧ i ≤ 4294967294) ∧ (0 ≤ t ∧ t ≤ 4294967295) := by
  unfold headB; rw [Bool.and_eq_true, inB_iff, inB_iff]
def headN (i t : Int) : Int := i + 1 + t * 4294967296
/-- Roots. -/
def rootB (g m c o : Int) : Bool := inB g 0 4294967295 && (inB m 0 4097 && (inB c 0 3 && inB o 0 1024))
theorem rootB_iff {g m c o : Int} : rootB g m c o = true ↔ (0 ≤ g ∧ g ≤ 4294967295) ∧ (0 ≤ m ∧ m ≤ 4097) ∧ (0 ≤ c ∧ c ≤ 3) ∧ (0 ≤ o ∧ o ≤ 1024) := by
  unfold rootB; rw [Bool.and_eq_true, Bool.and_eq_true, Bool.and_eq_true, inB_iff, inB_iff, inB_iff, inB_iff]
def rootN (g m c o : Int) : Int := o + c * 4096 + m * 65536 + g * 4294967296
/-- Pins. -/
def pinB (e : Int) : Bool := inB e 0 4611686018427387903
def pinN (e : Int) : Int := 2 * e + 1
def nextT (t : Int) : Int := if inB t 0 4294967294 then t + 1 else 0
def chunkN (m : Int) : Int := if m < 2 then -1 else m - 2
def liveB (g m gen : Int) : Bool := decide (1 ≤ m) && (g == gen)
/-- The words, 0 where there is none. -/
def headV (i t : Int) : Int := if headB i t then headN i t else 0
def rootV (g m c o : Int) : Int := if rootB g m c o then rootN g m c o else 0
def pinV (e : Int) : Int := if pinB e then pinN e else 0
def pinO (x : Int) : Bool := decide (x % 2 = 1)
def pinE (x : Int) : Int := if pinO x then x / 2 else 0
theorem headV_in (i t : Int) : 0 ≤ headV i t ∧ headV i t < 18446744073709551616 := by
  unfold headV; split
  · rename_i h; have := headB_iff.1 h; unfold headN; omega
  · omega
theorem rootV_in (g m c o : Int) : 0 ≤ rootV g m c o ∧ rootV g m c o < 18446744073709551616 := by
  unfold rootV; split
  · rename_i h; have := rootB_iff.1 h; unfold rootN; omega
  · omega
theorem pinV_in (e : Int) : 0 ≤ pinV e ∧ pinV e < 18446744073709551616 := by
  unfold pinV; split
  · rename_i h; unfold pinB at h; have := inB_iff.1 h; unfold pinN; omega
  · omega
theorem u64_in {n : Int} (h : (Lit.int .u64 n).wf = true) : 0 ≤ n ∧ n < 18446744073709551616 := by
  simp [Lit.wf, IntKind.min, IntKind.max, IntKind.bits, IntKind.signed] at h; omega
theorem i64_in {n : Int} (h : (Lit.int .i64 n).wf = true) : -9223372036854775808 ≤ n ∧ n < 9223372036854775808 := by
  simp [Lit.wf, IntKind.min, IntKind.max, IntKind.bits, IntKind.signed] at h; omega
end Go.Proofs.Ytkopplnjomkleaa.W64

/-
  The contracts of package word: heads, roots, pins as plain numbers.
-/
namespace Go.Proofs.Ytkopplnjomkleaa
open W64

theorem put_at_yes' {x v : Int} (X V : BitVec 64) (hx : x = U X) (hv : v = U V) (a n : Int) (w : World) {r : Int} (h : putB a n V = true) (hr : U (putV X a n V) = r) :
    Calls Try.prog 92 #[.int .u64 x, .int .i64 a, .int .i64 n, .int .u64 v] w fun e w' => e = .returned (.tuple #[.int .u64 r, .bool true]) ∧ ∃ m, w' = w.drewN m := by
  subst hx hv hr; exact put_yes X a n V w h
theorem get_at' {x : Int} (X : BitVec 64) (hx : x = U X) (a n : Int) (w : World) {r : Int} (hr : U (getW X a n) = r) :
    Calls Try.prog 89 #[.int .u64 x, .int .i64 a, .int .i64 n] w fun e w' => e = .returned (.int .u64 r) ∧ ∃ m, w' = w.drewN m := by
  subst hx hr; exact get_any X a n w

set_option maxHeartbeats 400000 in
theorem within_any (n a b : Int) (w : World) :
    Calls Try.prog 86 #[.int .i64 n, .int .i64 a, .int .i64 b] w fun e w' => e = .returned (.bool (inB n a b)) ∧ w = w' := by
  go_enter Try.func86, Try.ntmps86
  go_wp2
  all_goals
    go_ret
    refine ⟨ret_bool ?_, rfl⟩
    unfold inB
    simp [*]
  all_goals omega

set_option maxHeartbeats 400000 in
theorem wput_any {x v : Int} (a n : Int) (P Q : Nat) (w : World) (hf : fieldB a n = true) (hP : 2 ^ a.toNat = P) (hQ : 2 ^ n.toNat = Q) (hPQ : P * Q ≤ 18446744073709551616)
    (hx0 : 0 ≤ x) (hx : x < P) (hv0 : 0 ≤ v) (hv : v < Q) :
    Calls Try.prog 87 #[.int .u64 x, .int .i64 a, .int .i64 n, .int .i64 v] w fun e w' => e = .returned (.int .u64 (x + v * P)) ∧ ∃ m, w' = w.drewN m := by
  have b1 : x < 18446744073709551616 ∧ v < 18446744073709551616 := by
    have p1 : 0 < P := by omega
    have q1 : 0 < Q := by omega
    have := Nat.le_mul_of_pos_right P q1
    have := Nat.le_mul_of_pos_left Q p1
    omega
  have ux := Lib.hid (U_mk hx0 b1.1).symm
  have uv := Lib.hid (U_mk hv0 b1.2).symm
  have hw := Lib.hid (show IntKind.u64.wrap v = v by rw [IntKind.wrap_u64]; omega)
  have hr := Lib.hid (put_num (BitVec.ofNat 64 x.toNat) (BitVec.ofNat 64 v.toNat) hf hP hQ (by rw [← ux.out]; exact hx) (by rw [← uv.out]; exact hv) hPQ)
  have hb := Lib.hid (show putB a n (BitVec.ofNat 64 v.toNat) = true by
    obtain ⟨h0, h1, _, _⟩ := fieldB_iff.1 hf
    unfold putB; rw [hf, fits_num h0 h1 hQ (by rw [← uv.out]; exact hv)]; rfl)
  have F := Lib.hid hf
  clear hf hP hQ
  go_enter Try.func87, Try.ntmps87
  go_wp2_with (go_at_call 92; refine (put_at_yes' (BitVec.ofNat 64 x.toNat) (BitVec.ofNat 64 v.toNat) ux.out ?_ _ _ _ hb.out hr.out).mono ?_)
  · first | exact uv.out | (rw [hw.out]; exact uv.out)
  · rintro e w' ⟨rfl, m, rfl⟩
    go_wp2
    go_ret
    refine ⟨ret_int ?_, m, rfl⟩
    rw [← ux.out, ← uv.out]

set_option maxHeartbeats 400000 in
theorem wget_any {x : Int} (a n : Int) (P Q : Nat) (w : World) (hf : fieldB a n = true) (hP : 2 ^ a.toNat = P) (hQ : 2 ^ n.toNat = Q) (hQ2 : Q ≤ 9223372036854775808)
    (hx0 : 0 ≤ x) (hx : x < 18446744073709551616) :
    Calls Try.prog 79 #[.int .u64 x, .int .i64 a, .int .i64 n] w fun e w' => e = .returned (.int .i64 (x / P % Q)) ∧ ∃ m, w' = w.drewN m := by
  have q1 : 0 < Q := by have := Nat.two_pow_pos n.toNat; omega
  have ux := Lib.hid (U_mk hx0 hx).symm
  have hr := Lib.hid (get_num (BitVec.ofNat 64 x.toNat) hf hP hQ)
  have hw := Lib.hid (show RowKit.wrap64 (x / P % Q) = x / P % Q by
    have := Int.emod_nonneg (x / P) (show (Q : Int) ≠ 0 by omega)
    have := Int.emod_lt_of_pos (x / P) (show (0 : Int) < Q by omega)
    exact wrap64_in (by omega) (by omega))
  have hr' := Lib.hid (show U (getW (BitVec.ofNat 64 x.toNat) a n) = x / P % Q by rw [hr.out, ← ux.out])
  clear hf hP hQ hr
  go_enter Try.func79, Try.ntmps79
  go_wp2_with (go_at_call 89; refine (get_at' _ ux.out _ _ _ hr'.out).mono ?_; rintro e w' ⟨rfl, m, rfl⟩)
  go_ret
  exact ⟨ret_int hw.out, m, rfl⟩

/-! ### Heads -/
theorem up_box (w : World) (o : Obj) (m : Nat) : Up w ((w.alloc o).drewN m) := (Up.alloc _ _).then_drewN m
theorem up_box2 (w : World) (o p : Obj) : Up w ((w.alloc o).alloc p) := (Up.alloc _ _).then_alloc _

set_option maxHeartbeats 400000 in
theorem putHead_yes (i t : Int) (w : World) (h : headB i t = true) :
    Calls Try.prog 76 #[.agg #[.int .i64 i, .int .i64 t]] w fun e w' => e = .returned (.tuple #[.int .u64 (headN i t), .bool true]) ∧ Up w w' := by
  obtain ⟨⟨i0, i1⟩, t0, t1⟩ := headB_iff.1 h
  have c1 := inB_iff.2 ⟨i0, i1⟩
  have c2 := inB_iff.2 ⟨t0, t1⟩
  clear h
  go_enter Try.func76, Try.ntmps76
  go_wp2_with (first
    | (go_at_call 86; refine (within_any _ _ _ _).mono ?_; rintro e w' ⟨rfl, rfl⟩)
    | (go_at_call 87; (with_reducible refine (wput_any 0 32 1 4294967296 _ (by decide) (by decide) (by decide) (by decide) (by omega) (by omega) (by omega) (by omega)).mono ?_); rintro e w' ⟨rfl, m1, rfl⟩)
    | (go_at_call 87; (with_reducible refine (wput_any 32 32 4294967296 4294967296 _ (by decide) (by decide) (by decide) (by decide) (by omega) (by omega) (by omega) (by omega)).mono ?_); rintro e w' ⟨rfl, m2, rfl⟩))
  go_ret2
  exact ⟨rfl, up_box _ _ _⟩

set_option maxHeartbeats 400000 in
theorem putHead_no (i t : Int) (w : World) (h : headB i t = false) :
    Calls Try.prog 76 #[.agg #[.int .i64 i, .int .i64 t]] w fun e w' => e = .returned (.tuple #[.int .u64 0, .bool false]) ∧ Up w w' := by
  unfold headB at h
  cases c1 : inB i (-1) 4294967294
  · clear h
    go_enter Try.func76, Try.ntmps76
    go_wp2_with (go_at_call 86; refine (within_any _ _ _ _).mono ?_; rintro e w' ⟨rfl, rfl⟩)
    go_ret2
    exact ⟨rfl, up_box _ _ 0⟩
  · rw [c1, Bool.true_and] at h
    go_enter Try.func76, Try.ntmps76
    go_wp2_with (go_at_call 86; refine (within_any _ _ _ _).mono ?_; rintro e w' ⟨rfl, rfl⟩)
    go_ret2
    exact ⟨rfl, up_box _ _ 0⟩

set_option maxHeartbeats 400000 in
theorem getHead_any (x : Int) (w : World) (h0 : 0 ≤ x) (h1 : x < 18446744073709551616) :
    Calls Try.prog 64 #[.int .u64 x] w fun e w' => e = .returned (.agg #[.int .i64 (x % 4294967296 - 1), .int .i64 (x / 4294967296)]) ∧ Up w w' := by
  have hq := Lib.hid (show x / 4294967296 % 4294967296 = x / 4294967296 by omega)
  go_enter Try.func64, Try.ntmps64
  go_wp2_with (first
    | (go_at_call 79; (with_reducible refine (wget_any 0 32 1 4294967296 _ (by decide) (by decide) (by decide) (by decide) (by omega) (by omega)).mono ?_); rintro e w' ⟨rfl, m1, rfl⟩)
    | (go_at_call 79; (with_reducible refine (wget_any 32 32 4294967296 4294967296 _ (by decide) (by decide) (by decide) (by decide) (by omega) (by omega)).mono ?_); rintro e w' ⟨rfl, m2, rfl⟩))
  refine bodyPost_ret (v := .agg #[.int .i64 (x % 4294967296 - 1), .int .i64 (x / 4294967296)]) (by simp [results, Try.results64, go_sem, hq.out]) rfl ⟨rfl, ?_⟩
  exact ((up_box _ _ _).setCell (Nat.le_refl _) _).setCell (Nat.le_refl _) _

set_option maxHeartbeats 400000 in
theorem next_exact (i t index : Int) (w : World) :
    Calls Try.prog 98 #[.agg #[.int .i64 i, .int .i64 t], .int .i64 index] w fun e w' => e = .returned (.agg #[.int .i64 index, .int .i64 (nextT t)]) ∧ (w.alloc (.cells #[.int .i64 i, .int .i64 t] 130)).alloc (.cells #[.int .i64 index, .int .i64 (nextT t)] 130) = w' := by
  cases c1 : inB t 0 4294967294
  · have e1 : nextT t = 0 := by unfold nextT; rw [c1]; rfl
    rw [e1]; clear e1
    go_enter Try.func98, Try.ntmps98
    go_wp2_with (go_at_call 86; refine (within_any _ _ _ _).mono ?_; rintro e w' ⟨rfl, rfl⟩)
    refine bodyPost_ret (v := .agg #[.int .i64 index, .int .i64 0]) (by simp [results, Try.results98, go_sem]) rfl ⟨rfl, rfl⟩
  · have e1 : nextT t = t + 1 := by unfold nextT; rw [c1]; rfl
    obtain ⟨t0, t1⟩ := inB_iff.1 c1
    rw [e1]; clear e1
    go_enter Try.func98, Try.ntmps98
    go_wp2_with (go_at_call 86; refine (within_any _ _ _ _).mono ?_; rintro e w' ⟨rfl, rfl⟩)
    refine bodyPost_ret (v := .agg #[.int .i64 index, .int .i64 (t + 1)]) (by simp [results, Try.results98, go_sem]) rfl ⟨rfl, rfl⟩
theorem next_any (i t index : Int) (w : World) :
    Calls Try.prog 98 #[.agg #[.int .i64 i, .int .i64 t], .int .i64 index] w fun e w' => e = .returned (.agg #[.int .i64 index, .int .i64 (nextT t)]) ∧ Up w w' :=
  (next_exact i t index w).mono fun _ _ ⟨he, hw⟩ => ⟨he, hw ▸ up_box2 _ _ _⟩

/-! ### Roots -/
/-! ### Pins -/
theorem putHead_any (i t : Int) (w : World) :
    Calls Try.prog 76 #[.agg #[.int .i64 i, .int .i64 t]] w fun e w' => e = .returned (.tuple #[.int .u64 (headV i t), .bool (headB i t)]) ∧ Up w w' := by
  unfold headV
  cases h : headB i t
  · exact putHead_no i t w h
  · exact putHead_yes i t w h
end Go.Proofs.Ytkopplnjomkleaa

/-
  What every package over cells uses: words in each cell (St.Ok), method values, stores elsewhere.
-/
namespace Go.Proofs.Ytkopplnjomkleaa
open Go.RowKit
open W64
set_option maxRecDepth 100000

/-- Each cell holds a word. -/
def St.Ok (s : St) : Prop := ∀ i, 0 ≤ s.get i ∧ s.get i < 18446744073709551616
theorem getD_set {xs : List Int} {i j : Nat} {v : Int} : (xs.set i v).getD j 0 = if i = j ∧ j < xs.length then v else xs.getD j 0 := by
  unfold List.getD
  by_cases e : i = j
  · subst e
    by_cases h : i < xs.length
    · simp [h]
    · simp [h]
  · simp [e]
theorem St.Ok.lay {s : St} (h : s.Ok) (i : Int) {v : Int} (h0 : 0 ≤ v) (h1 : v < 18446744073709551616) : (s.lay i v).Ok := by
  intro j
  unfold St.lay St.get
  dsimp only
  rw [getD_set]
  split
  · exact ⟨h0, h1⟩
  · exact h j
theorem St.Ok.hit {s : St} (h : s.Ok) (k i : Int) {v : Int} (y : Bool) (h0 : 0 ≤ v) (h1 : v < 18446744073709551616) : (s.hit k i v y).Ok := by
  have := h.lay i h0 h1
  exact this
theorem St.Ok.zero (n : Nat) : (St.zero n).Ok := by
  intro i
  unfold St.get St.zero
  dsimp only
  have : (List.replicate n (0 : Int)).getD i.toNat 0 = 0 := by
    unfold List.getD
    by_cases h : i.toNat < n <;> simp [h]
  rw [this]; decide
instance (s : St) (i : Int) : Decidable (s.has i) := inferInstanceAs (Decidable (_ ∧ _))
theorem hit_len (s : St) (k i v : Int) (y : Bool) : (s.hit k i v y).xs.length = s.xs.length := by simp [St.hit]
theorem lay_len (s : St) (i v : Int) : (s.lay i v).xs.length = s.xs.length := by simp [St.lay]
/-- A method value of the machine at b. -/
def meth (f : FuncId) (b : Nat) : Value := .func (.func f) #[.pointer (some ⟨b, 0, none⟩)] #[]
theorem run_func (fn : Fn) (first cap : Array Value) (w : World) : (Instr.makeFunc fn first cap).run Try.prog w = .ok (.func fn first cap) w := rfl
theorem run_eql_func (f : Fn) (x y : Array Value) (w : World) : (binOp .eql 1 (.func f x y) .nilFunc).run Try.prog w = .ok (.bool false) w := by rfl
theorem run_eql_nilFunc (w : World) : (binOp .eql 1 .nilFunc .nilFunc).run Try.prog w = .ok (.bool true) w := by rfl
theorem kept_set {w : World} {p a : Addr} {v x : Value} (h : p ≠ a) (hc : w.cell? a = some x) : (w.setCell p v).cell? a = some x := by rw [World.cell?_setCell_other (h := h)]; exact hc
theorem ad_ne {a b i j : Nat} (h : a ≠ b) : (⟨a, i, none⟩ : Addr) ≠ ⟨b, j, none⟩ := fun e => h (congrArg Addr.block e)
theorem off_ne {a i j : Nat} (h : i ≠ j) : (⟨a, i, none⟩ : Addr) ≠ ⟨a, j, none⟩ := fun e => h (congrArg Addr.off e)
theorem not_three {a b c d : Nat} (h1 : a ≠ b) (h2 : a ≠ c) (h3 : a ≠ d) : a ∉ [b, c, d] := by simp [h1, h2, h3]
theorem else_self {w a : World} {t : List Nat} {b o : Nat} {u : Value} (h : Else t w a) (hb : b ∈ t) : Else t w (a.setCell ⟨b, o, none⟩ u) := h.set (.inl hb) u
theorem Else.wide {p g : Nat} {a c : World} (h : Else [p, g] a c) (b : Nat) : Else [b, p, g] a c := h.more (by intro k hk; simp at hk ⊢; exact .inr hk)
theorem Else.wide1 {b : Nat} {a c : World} (h : Else [b] a c) (p g : Nat) : Else [b, p, g] a c := h.more (by intro k hk; simp at hk ⊢; exact .inl hk)
theorem read_xs (s : St) (k i : Int) (y : Bool) : (s.hit k i (s.get i) y).xs = s.xs := by
  unfold St.hit St.get
  dsimp only
  refine List.ext_getElem? fun j => ?_
  rw [List.getElem?_set]
  split
  · rename_i e; subst e
    split
    · rename_i h; simp [List.getD, h]
    · rename_i h; simp at h; simp [h]
  · rfl
end Go.Proofs.Ytkopplnjomkleaa

/-
  Package stack: the stack over its cells (Env), what a word tells (topN, belowN, nextW), the small functions, New.
-/
namespace Go.Proofs.Ytkopplnjomkleaa
open Go.RowKit
open W64
set_option maxRecDepth 100000

/-- The item that a head's word tells, and a link's; -1: none. -/
def topN (n x : Int) : Int := if n ≤ x % 4294967296 - 1 then -1 else x % 4294967296 - 1
def belowN (n x : Int) : Int := if n < x then -1 else x - 1
/-- The head's word behind an exchange. -/
def nextW (x i : Int) : Int := headV i (nextT (x / 4294967296))
theorem nextW_in (x i : Int) : 0 ≤ nextW x i ∧ nextW x i < 18446744073709551616 := headV_in _ _
/-- A stack lies at q, over the memory at p, whose cells lie at g. -/
structure Env (w : World) (p g q hd ln n : Nat) (s : St) : Prop where
  mem : Mem w p g s
  stk : Whole w q 90 #[.pointer (some ⟨p, 0, none⟩), .int .i64 hd, .int .i64 ln, .int .i64 n]
  ok : s.Ok
  np : q ≠ p
  ng : q ≠ g
  n0 : 1 ≤ n
  n1 : n ≤ 4096
  hh : hd < s.xs.length
  hl : ln + n ≤ s.xs.length
  top : s.xs.length ≤ 8388608
  far : hd < ln ∨ ln + n ≤ hd
section
variable {w w' : World} {p g q hd ln n : Nat} {s : St}
theorem Env.up (E : Env w p g q hd ln n s) (u : Up w w') : Env w' p g q hd ln n s := ⟨E.mem.up u, E.stk.up u, E.ok, E.np, E.ng, E.n0, E.n1, E.hh, E.hl, E.top, E.far⟩
theorem Env.else (E : Env w p g q hd ln n s) {l : List Nat} (u : Else l w w') (h1 : p ∉ l) (h2 : g ∉ l) (h3 : q ∉ l) : Env w' p g q hd ln n s :=
  ⟨E.mem.else u h1 h2, u.whole E.stk h3, E.ok, E.np, E.ng, E.n0, E.n1, E.hh, E.hl, E.top, E.far⟩
/-- Behind a call that turns the memory. -/
theorem Env.turn (E : Env w p g q hd ln n s) {s' : St} (m : Mem w' p g s') (u : Else [p, g] w w') (ok : s'.Ok) (hl : s'.xs.length = s.xs.length) : Env w' p g q hd ln n s' :=
  ⟨m, u.whole E.stk (by simp [E.np, E.ng]), ok, E.np, E.ng, E.n0, E.n1, hl ▸ E.hh, hl ▸ E.hl, hl ▸ E.top, E.far⟩
theorem Env.cells (E : Env w p g q hd ln n s) : w.cell? ⟨q, 0, none⟩ = some (.pointer (some ⟨p, 0, none⟩)) ∧ w.cell? ⟨q, 1, none⟩ = some (.int .i64 hd) ∧ w.cell? ⟨q, 2, none⟩ = some (.int .i64 ln) ∧ w.cell? ⟨q, 3, none⟩ = some (.int .i64 n) :=
  ⟨E.stk.cell rfl, E.stk.cell rfl, E.stk.cell rfl, E.stk.cell rfl⟩
theorem Env.hasH (E : Env w p g q hd ln n s) : s.has hd := ⟨by omega, by have := E.hh; omega⟩
theorem Env.hasL (E : Env w p g q hd ln n s) {i : Int} (h0 : 0 ≤ i) (h1 : i < n) : s.has (ln + i) := ⟨by omega, by have := E.hl; omega⟩
set_option maxHeartbeats 400000 in
theorem asLink_any (x : Int) (h0 : -1 ≤ x) (h1 : x < 9223372036854775807) (w : World) :
    Calls Try.prog 75 #[.int .i64 x] w fun e w' => e = .returned (.int .u64 (x + 1)) ∧ w = w' := by
  have e1 : IntKind.i64.wrap (x + 1) = x + 1 := IntWalk.i64_in _ (by omega)
  have e2 : IntKind.u64.wrap (x + 1) = x + 1 := IntWalk.u64_in _ (by omega)
  go_enter Try.func75, Try.ntmps75
  go_wp2
  go_ret
  refine ⟨ret_int ?_, rfl⟩
  first | rfl | (rw [wrap64_in (by omega) (by omega)]; exact e2)
theorem asLink_to {x y : Int} (e : x + 1 = y) (h0 : -1 ≤ x) (h1 : x < 9223372036854775807) (w : World) :
    Calls Try.prog 75 #[.int .i64 x] w fun e w' => e = .returned (.int .u64 y) ∧ w = w' := e ▸ asLink_any x h0 h1 w

theorem run_index (i t : Int) (w : World) : (Instr.field 130 (.agg #[.int .i64 i, .int .i64 t]) 0).run Try.prog w = .ok (.int .i64 i) w := by
  rfl
set_option maxHeartbeats 400000 in
theorem ofHead_in (E : Env w p g q hd ln n s) {x : Int} (h0 : 0 ≤ x) (h1 : x < 18446744073709551616) :
    Calls Try.prog 35 #[.pointer (some ⟨q, 0, none⟩), .int .u64 x] w fun e w' => e = .returned (.int .i64 (topN n x)) ∧ Up w w' := by
  have c3 := E.cells.2.2.2
  have hf := run_index
  by_cases h : (n : Int) ≤ x % 4294967296 - 1
  · have e : topN n x = -1 := by unfold topN; rw [if_pos h]
    rw [e]
    have c := Lib.hid c3
    go_enter Try.func35, Try.ntmps35
    go_wp2_with (go_at_call 64; refine (getHead_any x _ h0 h1).mono ?_; rintro e w1 ⟨rfl, U1⟩; have c4 := U1.kept c.out)
    go_ret
    exact ⟨rfl, U1⟩
  · have e : topN n x = x % 4294967296 - 1 := by unfold topN; rw [if_neg h]
    rw [e]
    have c := Lib.hid c3
    go_enter Try.func35, Try.ntmps35
    go_wp2_with (go_at_call 64; refine (getHead_any x _ h0 h1).mono ?_; rintro e w1 ⟨rfl, U1⟩; have c4 := U1.kept c.out)
    go_ret
    exact ⟨rfl, U1⟩
theorem ofHead_to (E : Env w p g q hd ln n s) {x y : Int} (h0 : 0 ≤ x) (h1 : x < 18446744073709551616) (e : topN n x = y) :
    Calls Try.prog 35 #[.pointer (some ⟨q, 0, none⟩), .int .u64 x] w fun e w' => e = .returned (.int .i64 y) ∧ Up w w' := e ▸ ofHead_in E h0 h1

set_option maxHeartbeats 400000 in
theorem ofLink_in (E : Env w p g q hd ln n s) {x : Int} (h0 : 0 ≤ x) (h1 : x < 18446744073709551616) :
    Calls Try.prog 37 #[.pointer (some ⟨q, 0, none⟩), .int .u64 x] w fun e w' => e = .returned (.int .i64 (belowN n x)) ∧ w = w' := by
  have c3 := E.cells.2.2.2
  have n1 := E.n1
  have e1 : IntKind.u64.wrap (n : Int) = n := IntWalk.u64_in _ (by omega)
  by_cases h : (n : Int) < x
  · have e : belowN n x = -1 := by unfold belowN; rw [if_pos h]
    rw [e]
    go_enter Try.func37, Try.ntmps37
    go_wp2
    go_ret
    exact ⟨rfl, rfl⟩
  · have e : belowN n x = x - 1 := by unfold belowN; rw [if_neg h]
    rw [e]
    have e2 : IntKind.i64.wrap x = x := IntWalk.i64_in _ (by omega)
    have e3 : wrap64 (x - 1) = x - 1 := wrap64_in (by omega) (by omega)
    go_enter Try.func37, Try.ntmps37
    go_wp2
    go_ret
    refine ⟨ret_int ?_, rfl⟩
    first | rfl | exact e3 | omega
theorem ofLink_to (E : Env w p g q hd ln n s) {x y : Int} (h0 : 0 ≤ x) (h1 : x < 18446744073709551616) (e : belowN n x = y) :
    Calls Try.prog 37 #[.pointer (some ⟨q, 0, none⟩), .int .u64 x] w fun e w' => e = .returned (.int .i64 y) ∧ w = w' := e ▸ ofLink_in E h0 h1

set_option maxHeartbeats 400000 in
theorem isCell_any (m : Mem w p g s) (i : Int) :
    Calls Try.prog 73 #[.pointer (some ⟨p, 0, none⟩), .int .i64 i] w fun e w' => e = .returned (.bool (decide (s.has i))) ∧ w = w' := by
  have hm := Lib.hid m
  clear m
  by_cases h0 : 0 ≤ i
  · by_cases h1 : i < s.xs.length
    · have e : decide (s.has i) = true := decide_eq_true ⟨h0, h1⟩
      rw [e]
      go_enter Try.func73, Try.ntmps73
      go_wp2_with (go_at_call 50; refine (len_any hm.out).mono ?_; rintro e w1 ⟨rfl, rfl⟩)
      go_ret
      exact ⟨rfl, rfl⟩
    · have e : decide (s.has i) = false := decide_eq_false fun h => h1 h.2
      rw [e]
      go_enter Try.func73, Try.ntmps73
      go_wp2_with (go_at_call 50; refine (len_any hm.out).mono ?_; rintro e w1 ⟨rfl, rfl⟩)
      go_ret
      exact ⟨ret_bool (decide_eq_false (by omega)), rfl⟩
  · have e : decide (s.has i) = false := decide_eq_false fun h => h0 h.1
    rw [e]
    go_enter Try.func73, Try.ntmps73
    go_wp2_with fail
    go_ret
    exact ⟨rfl, rfl⟩
theorem isCell_to (m : Mem w p g s) {i : Int} {b : Bool} (h : decide (s.has i) = b) :
    Calls Try.prog 73 #[.pointer (some ⟨p, 0, none⟩), .int .i64 i] w fun e w' => e = .returned (.bool b) ∧ w = w' := h ▸ isCell_any m i
/-- May there be a stack over these cells? -/
def newB (s : St) (hd ln n : Int) : Prop := 1 ≤ n ∧ n ≤ 4096 ∧ s.has hd ∧ s.has ln ∧ s.has (ln + n - 1) ∧ ¬ (ln ≤ hd ∧ hd ≤ ln + n - 1)
set_option maxHeartbeats 1000000 in
theorem snew_no (m : Mem w p g s) {hd ln n : Int} (hs : s.xs.length ≤ 8388608) (h : ¬ newB s hd ln n) :
    Calls Try.prog 51 #[.pointer (some ⟨p, 0, none⟩), .int .i64 hd, .int .i64 ln, .int .i64 n] w fun e w' => e = .returned (.tuple #[.pointer none, .int .i64 1]) ∧ w = w' := by
  have hm := Lib.hid m
  clear m
  by_cases h0 : 1 ≤ n
  rotate_left
  · go_enter Try.func51, Try.ntmps51
    go_wp2_with fail
    go_ret2
    exact ⟨rfl, rfl⟩
  by_cases h1 : n ≤ 4096
  rotate_left
  · go_enter Try.func51, Try.ntmps51
    go_wp2_with fail
    go_ret2
    exact ⟨rfl, rfl⟩
  by_cases h2 : s.has hd
  rotate_left
  · have e2 := Lib.hid (decide_eq_false h2)
    go_enter Try.func51, Try.ntmps51
    go_wp2_with (go_at_call 73; (with_reducible refine (isCell_to hm.out e2.out).mono ?_); rintro e w1 ⟨rfl, rfl⟩)
    go_ret2
    exact ⟨rfl, rfl⟩
  have e2 := Lib.hid (decide_eq_true h2)
  by_cases h3 : s.has ln
  rotate_left
  · have e3 := Lib.hid (decide_eq_false h3)
    go_enter Try.func51, Try.ntmps51
    go_wp2_with (first
      | (go_at_call 73; (with_reducible refine (isCell_to hm.out e2.out).mono ?_); rintro e w1 ⟨rfl, rfl⟩)
      | (go_at_call 73; (with_reducible refine (isCell_to hm.out e3.out).mono ?_); rintro e w1 ⟨rfl, rfl⟩))
    go_ret2
    exact ⟨rfl, rfl⟩
  have e3 := Lib.hid (decide_eq_true h3)
  have l0 := h3.1
  have l1 := h3.2
  have a1 : wrap64 (ln + n) = ln + n := wrap64_in (by omega) (by omega)
  have a2 : wrap64 (ln + n - 1) = ln + n - 1 := wrap64_in (by omega) (by omega)
  by_cases h4 : s.has (ln + n - 1)
  rotate_left
  · have e4 := Lib.hid (decide_eq_false h4)
    clear h2 h3 h4 h
    go_enter Try.func51, Try.ntmps51
    go_wp2_with (first
      | (go_at_call 73; (with_reducible refine (isCell_to hm.out e2.out).mono ?_); rintro e w1 ⟨rfl, rfl⟩)
      | (go_at_call 73; (with_reducible refine (isCell_to hm.out e3.out).mono ?_); rintro e w1 ⟨rfl, rfl⟩)
      | (go_at_call 73; (with_reducible refine (isCell_to hm.out e4.out).mono ?_); rintro e w1 ⟨rfl, rfl⟩))
    go_ret2
    exact ⟨rfl, rfl⟩
  have e4 := Lib.hid (decide_eq_true h4)
  have h5 : ln ≤ hd ∧ hd ≤ ln + n - 1 := by
    by_cases c : ln ≤ hd ∧ hd ≤ ln + n - 1
    · exact c
    · exact absurd ⟨h0, h1, h2, h3, h4, c⟩ h
  obtain ⟨h5, h6⟩ := h5
  clear h2 h3 h4 h
  go_enter Try.func51, Try.ntmps51
  go_wp2_with (first
    | (go_at_call 73; (with_reducible refine (isCell_to hm.out e2.out).mono ?_); rintro e w1 ⟨rfl, rfl⟩)
    | (go_at_call 73; (with_reducible refine (isCell_to hm.out e3.out).mono ?_); rintro e w1 ⟨rfl, rfl⟩)
    | (go_at_call 73; (with_reducible refine (isCell_to hm.out e4.out).mono ?_); rintro e w1 ⟨rfl, rfl⟩))
  go_ret2
  exact ⟨rfl, rfl⟩
set_option maxHeartbeats 1000000 in
theorem snew_yes (m : Mem w p g s) {hd ln n : Int} (hs : s.xs.length ≤ 8388608) (h : newB s hd ln n) :
    Calls Try.prog 51 #[.pointer (some ⟨p, 0, none⟩), .int .i64 hd, .int .i64 ln, .int .i64 n] w fun e w' => e = .returned (.tuple #[.pointer (some ⟨w.heap.size, 0, none⟩), .int .i64 0]) ∧ Up w w' ∧ Whole w' w.heap.size 90 #[.pointer (some ⟨p, 0, none⟩), .int .i64 hd, .int .i64 ln, .int .i64 n] := by
  have hm := Lib.hid m
  clear m
  obtain ⟨h0, h1, h2, h3, h4, h5⟩ := h
  have e2 := Lib.hid (decide_eq_true h2)
  have e3 := Lib.hid (decide_eq_true h3)
  have e4 := Lib.hid (decide_eq_true h4)
  have l0 := h3.1
  have l1 := h3.2
  have a1 : wrap64 (ln + n) = ln + n := wrap64_in (by omega) (by omega)
  have a2 : wrap64 (ln + n - 1) = ln + n - 1 := wrap64_in (by omega) (by omega)
  clear h2 h3 h4
  by_cases h6 : ln ≤ hd
  · have h7 : ¬ hd ≤ ln + n - 1 := fun c => h5 ⟨h6, c⟩
    clear h5
    go_enter Try.func51, Try.ntmps51
    go_wp2_with (first
      | (go_at_call 73; (with_reducible refine (isCell_to hm.out e2.out).mono ?_); rintro e w1 ⟨rfl, rfl⟩)
      | (go_at_call 73; (with_reducible refine (isCell_to hm.out e3.out).mono ?_); rintro e w1 ⟨rfl, rfl⟩)
      | (go_at_call 73; (with_reducible refine (isCell_to hm.out e4.out).mono ?_); rintro e w1 ⟨rfl, rfl⟩))
    go_ret2
    exact ⟨rfl, Up.alloc _ _, Whole.new _ _ _⟩
  · clear h5
    go_enter Try.func51, Try.ntmps51
    go_wp2_with (first
      | (go_at_call 73; (with_reducible refine (isCell_to hm.out e2.out).mono ?_); rintro e w1 ⟨rfl, rfl⟩)
      | (go_at_call 73; (with_reducible refine (isCell_to hm.out e3.out).mono ?_); rintro e w1 ⟨rfl, rfl⟩)
      | (go_at_call 73; (with_reducible refine (isCell_to hm.out e4.out).mono ?_); rintro e w1 ⟨rfl, rfl⟩))
    go_ret2
    exact ⟨rfl, Up.alloc _ _, Whole.new _ _ _⟩
end
end Go.Proofs.Ytkopplnjomkleaa
