/-
  The contracts of package word: heads, roots, pins as plain numbers.
-/
import Derived.Test.YtalhbebpoohgkaaBits
import Derived.Test.YtalhbebpoohgkaaWordMath
import Derived.Test.YtalhbebpoohgkaaBase
namespace Go.Proofs.Ytalhbebpoohgkaa
open W64

theorem put_at_yes' {x v : Int} (X V : BitVec 64) (hx : x = U X) (hv : v = U V) (a n : Int) (w : World) {r : Int} (h : putB a n V = true) (hr : U (putV X a n V) = r) :
    Calls Try.prog 68 #[.int .u64 x, .int .i64 a, .int .i64 n, .int .u64 v] w fun e w' => e = .returned (.tuple #[.int .u64 r, .bool true]) ∧ ∃ m, w' = w.drewN m := by
  subst hx hv hr; exact put_yes X a n V w h
theorem get_at' {x : Int} (X : BitVec 64) (hx : x = U X) (a n : Int) (w : World) {r : Int} (hr : U (getW X a n) = r) :
    Calls Try.prog 78 #[.int .u64 x, .int .i64 a, .int .i64 n] w fun e w' => e = .returned (.int .u64 r) ∧ ∃ m, w' = w.drewN m := by
  subst hx hr; exact get_any X a n w

set_option maxHeartbeats 400000 in
theorem within_any (n a b : Int) (w : World) :
    Calls Try.prog 55 #[.int .i64 n, .int .i64 a, .int .i64 b] w fun e w' => e = .returned (.bool (inB n a b)) ∧ w = w' := by
  go_enter Try.func55, Try.ntmps55
  go_wp2
  all_goals
    go_ret
    refine ⟨ret_bool ?_, rfl⟩
    unfold inB
    simp [*]
  all_goals omega

set_option maxHeartbeats 400000 in
theorem wput_any {x v : Int} (a n : Int) (P Q : Nat) (w : World) (hf : fieldB a n = true) (hP : 2 ^ a.toNat = P) (hQ : 2 ^ n.toNat = Q) (hPQ : P * Q ≤ 18446744073709551616)
    (hx0 : 0 ≤ x) (hx : x < P) (hv0 : 0 ≤ v) (hv : v < Q) :
    Calls Try.prog 56 #[.int .u64 x, .int .i64 a, .int .i64 n, .int .i64 v] w fun e w' => e = .returned (.int .u64 (x + v * P)) ∧ ∃ m, w' = w.drewN m := by
  have b1 : x < 18446744073709551616 ∧ v < 18446744073709551616 := by
    have p1 : 0 < P := by omega
    have q1 : 0 < Q := by omega
    have := Nat.le_mul_of_pos_right P q1
    have := Nat.le_mul_of_pos_left Q p1
    omega
  have ux := Lib.hid (U_mk hx0 b1.1).symm
  have uv := Lib.hid (U_mk hv0 b1.2).symm
  have hw := Lib.hid (show IntKind.u64.wrap v = v by rw [IntKind.wrap_u64]; omega)
  have hr := Lib.hid (put_num (BitVec.ofNat 64 x.toNat) (BitVec.ofNat 64 v.toNat) hf hP hQ (by rw [← ux.out]; exact hx) (by rw [← uv.out]; exact hv) hPQ)
  have hb := Lib.hid (show putB a n (BitVec.ofNat 64 v.toNat) = true by
    obtain ⟨h0, h1, _, _⟩ := fieldB_iff.1 hf
    unfold putB; rw [hf, fits_num h0 h1 hQ (by rw [← uv.out]; exact hv)]; rfl)
  have F := Lib.hid hf
  clear hf hP hQ
  go_enter Try.func56, Try.ntmps56
  go_wp2_with (go_at_call 68; refine (put_at_yes' (BitVec.ofNat 64 x.toNat) (BitVec.ofNat 64 v.toNat) ux.out ?_ _ _ _ hb.out hr.out).mono ?_)
  · first | exact uv.out | (rw [hw.out]; exact uv.out)
  · rintro e w' ⟨rfl, m, rfl⟩
    go_wp2
    go_ret
    refine ⟨ret_int ?_, m, rfl⟩
    rw [← ux.out, ← uv.out]

set_option maxHeartbeats 400000 in
theorem wget_any {x : Int} (a n : Int) (P Q : Nat) (w : World) (hf : fieldB a n = true) (hP : 2 ^ a.toNat = P) (hQ : 2 ^ n.toNat = Q) (hQ2 : Q ≤ 9223372036854775808)
    (hx0 : 0 ≤ x) (hx : x < 18446744073709551616) :
    Calls Try.prog 70 #[.int .u64 x, .int .i64 a, .int .i64 n] w fun e w' => e = .returned (.int .i64 (x / P % Q)) ∧ ∃ m, w' = w.drewN m := by
  have q1 : 0 < Q := by have := Nat.two_pow_pos n.toNat; omega
  have ux := Lib.hid (U_mk hx0 hx).symm
  have hr := Lib.hid (get_num (BitVec.ofNat 64 x.toNat) hf hP hQ)
  have hw := Lib.hid (show RowKit.wrap64 (x / P % Q) = x / P % Q by
    have := Int.emod_nonneg (x / P) (show (Q : Int) ≠ 0 by omega)
    have := Int.emod_lt_of_pos (x / P) (show (0 : Int) < Q by omega)
    exact wrap64_in (by omega) (by omega))
  have hr' := Lib.hid (show U (getW (BitVec.ofNat 64 x.toNat) a n) = x / P % Q by rw [hr.out, ← ux.out])
  clear hf hP hQ hr
  go_enter Try.func70, Try.ntmps70
  go_wp2_with (go_at_call 78; refine (get_at' _ ux.out _ _ _ hr'.out).mono ?_; rintro e w' ⟨rfl, m, rfl⟩)
  go_ret
  exact ⟨ret_int hw.out, m, rfl⟩

/-! ### Heads -/
theorem up_box (w : World) (o : Obj) (m : Nat) : Up w ((w.alloc o).drewN m) := (Up.alloc _ _).then_drewN m
theorem up_box2 (w : World) (o p : Obj) : Up w ((w.alloc o).alloc p) := (Up.alloc _ _).then_alloc _

set_option maxHeartbeats 400000 in
theorem putHead_yes (i t : Int) (w : World) (h : headB i t = true) :
    Calls Try.prog 38 #[.agg #[.int .i64 i, .int .i64 t]] w fun e w' => e = .returned (.tuple #[.int .u64 (headN i t), .bool true]) ∧ Up w w' := by
  obtain ⟨⟨i0, i1⟩, t0, t1⟩ := headB_iff.1 h
  have c1 := inB_iff.2 ⟨i0, i1⟩
  have c2 := inB_iff.2 ⟨t0, t1⟩
  clear h
  go_enter Try.func38, Try.ntmps38
  go_wp2_with (first
    | (go_at_call 55; refine (within_any _ _ _ _).mono ?_; rintro e w' ⟨rfl, rfl⟩)
    | (go_at_call 56; (with_reducible refine (wput_any 0 32 1 4294967296 _ (by decide) (by decide) (by decide) (by decide) (by omega) (by omega) (by omega) (by omega)).mono ?_); rintro e w' ⟨rfl, m1, rfl⟩)
    | (go_at_call 56; (with_reducible refine (wput_any 32 32 4294967296 4294967296 _ (by decide) (by decide) (by decide) (by decide) (by omega) (by omega) (by omega) (by omega)).mono ?_); rintro e w' ⟨rfl, m2, rfl⟩))
  go_ret2
  exact ⟨rfl, up_box _ _ _⟩

set_option maxHeartbeats 400000 in
theorem putHead_no (i t : Int) (w : World) (h : headB i t = false) :
    Calls Try.prog 38 #[.agg #[.int .i64 i, .int .i64 t]] w fun e w' => e = .returned (.tuple #[.int .u64 0, .bool false]) ∧ Up w w' := by
  unfold headB at h
  cases c1 : inB i (-1) 4294967294
  · clear h
    go_enter Try.func38, Try.ntmps38
    go_wp2_with (go_at_call 55; refine (within_any _ _ _ _).mono ?_; rintro e w' ⟨rfl, rfl⟩)
    go_ret2
    exact ⟨rfl, up_box _ _ 0⟩
  · rw [c1, Bool.true_and] at h
    go_enter Try.func38, Try.ntmps38
    go_wp2_with (go_at_call 55; refine (within_any _ _ _ _).mono ?_; rintro e w' ⟨rfl, rfl⟩)
    go_ret2
    exact ⟨rfl, up_box _ _ 0⟩

set_option maxHeartbeats 400000 in
theorem getHead_any (x : Int) (w : World) (h0 : 0 ≤ x) (h1 : x < 18446744073709551616) :
    Calls Try.prog 61 #[.int .u64 x] w fun e w' => e = .returned (.agg #[.int .i64 (x % 4294967296 - 1), .int .i64 (x / 4294967296)]) ∧ Up w w' := by
  have hq := Lib.hid (show x / 4294967296 % 4294967296 = x / 4294967296 by omega)
  go_enter Try.func61, Try.ntmps61
  go_wp2_with (first
    | (go_at_call 70; (with_reducible refine (wget_any 0 32 1 4294967296 _ (by decide) (by decide) (by decide) (by decide) (by omega) (by omega)).mono ?_); rintro e w' ⟨rfl, m1, rfl⟩)
    | (go_at_call 70; (with_reducible refine (wget_any 32 32 4294967296 4294967296 _ (by decide) (by decide) (by decide) (by decide) (by omega) (by omega)).mono ?_); rintro e w' ⟨rfl, m2, rfl⟩))
  refine bodyPost_ret (v := .agg #[.int .i64 (x % 4294967296 - 1), .int .i64 (x / 4294967296)]) (by simp [results, Try.results61, go_sem, hq.out]) rfl ⟨rfl, ?_⟩
  exact ((up_box _ _ _).setCell (Nat.le_refl _) _).setCell (Nat.le_refl _) _

set_option maxHeartbeats 400000 in
theorem next_exact (i t index : Int) (w : World) :
    Calls Try.prog 82 #[.agg #[.int .i64 i, .int .i64 t], .int .i64 index] w fun e w' => e = .returned (.agg #[.int .i64 index, .int .i64 (nextT t)]) ∧ (w.alloc (.cells #[.int .i64 i, .int .i64 t] 77)).alloc (.cells #[.int .i64 index, .int .i64 (nextT t)] 77) = w' := by
  cases c1 : inB t 0 4294967294
  · have e1 : nextT t = 0 := by unfold nextT; rw [c1]; rfl
    rw [e1]; clear e1
    go_enter Try.func82, Try.ntmps82
    go_wp2_with (go_at_call 55; refine (within_any _ _ _ _).mono ?_; rintro e w' ⟨rfl, rfl⟩)
    refine bodyPost_ret (v := .agg #[.int .i64 index, .int .i64 0]) (by simp [results, Try.results82, go_sem]) rfl ⟨rfl, rfl⟩
  · have e1 : nextT t = t + 1 := by unfold nextT; rw [c1]; rfl
    obtain ⟨t0, t1⟩ := inB_iff.1 c1
    rw [e1]; clear e1
    go_enter Try.func82, Try.ntmps82
    go_wp2_with (go_at_call 55; refine (within_any _ _ _ _).mono ?_; rintro e w' ⟨rfl, rfl⟩)
    refine bodyPost_ret (v := .agg #[.int .i64 index, .int .i64 (t + 1)]) (by simp [results, Try.results82, go_sem]) rfl ⟨rfl, rfl⟩
theorem next_any (i t index : Int) (w : World) :
    Calls Try.prog 82 #[.agg #[.int .i64 i, .int .i64 t], .int .i64 index] w fun e w' => e = .returned (.agg #[.int .i64 index, .int .i64 (nextT t)]) ∧ Up w w' :=
  (next_exact i t index w).mono fun _ _ ⟨he, hw⟩ => ⟨he, hw ▸ up_box2 _ _ _⟩

/-! ### Roots -/
/-! ### Pins -/
theorem putHead_any (i t : Int) (w : World) :
    Calls Try.prog 38 #[.agg #[.int .i64 i, .int .i64 t]] w fun e w' => e = .returned (.tuple #[.int .u64 (headV i t), .bool (headB i t)]) ∧ Up w w' := by
  unfold headV
  cases h : headB i t
  · exact putHead_no i t w h
  · exact putHead_yes i t w h
end Go.Proofs.Ytalhbebpoohgkaa
