/-
  StackRefuses: stacks over cells that are none, items that are none or stand twice.
-/
import Derived.Test.YtalhbebpoohgkaaRows
import Derived.Test.YtalhbebpoohgkaaFirst
import Derived.Test.YtalhbebpoohgkaaPushNew
import Derived.WalkKit
import Derived.ProofKit
import Derived.OpenShut
import Derived.ShutString
import Derived.ChangeOld
import Derived.Below
import Derived.Carry
import Derived.Lib.SmallJoins
import Derived.OwnWalk
namespace Go.Proofs.Ytalhbebpoohgkaa.stackRefuses
open Go.ChangeShapes Go.WideShapes Go.ChangeAt Go.RowKit Go.Joins Go.Proofs.Ytalhbebpoohgkaa W64
open Go.ChangeMaps (open_string shut_string)
set_option linter.unusedVariables false

theorem own : ownKnob Try.prog.godebug = none := by kernel_rfl
theorem laidOut : laidOutB Try.prog = true := by kernel_rfl


theorem rd_one (w : World) (a : Int) : Rd (w.alloc (.cells #[.int .i64 a] 3)) (.slice (some ⟨w.heap.size, 0, none⟩) 1 1) [a] := by
  refine ⟨_, _, rfl, by unfold maxLen; simp, fun j hj => ⟨_, _, rfl, ?_⟩⟩
  simp at hj; subst hj
  exact cell_new rfl rfl
theorem rd_two (w : World) (a b : Int) : Rd (w.alloc (.cells #[.int .i64 a, .int .i64 b] 3)) (.slice (some ⟨w.heap.size, 0, none⟩) 2 2) [a, b] := by
  refine ⟨_, _, rfl, by unfold maxLen; simp, fun j hj => ⟨_, _, rfl, ?_⟩⟩
  have : j = 0 ∨ j = 1 := by simp at hj; omega
  rcases this with rfl | rfl
  · exact cell_new rfl rfl
  · exact cell_new rfl rfl
theorem has20 (i : Int) : (St.zero 20).has i ↔ 0 ≤ i ∧ i < 20 := by unfold St.has; rw [zero_len]; omega
theorem new20 {h b k : Int} (k0 : 1 ≤ k) (k1 : k ≤ 15) : newB (St.zero 20) h b k ↔ (0 ≤ h ∧ h < 20 ∧ 0 ≤ b ∧ b ≤ 20 - k ∧ (h < b ∨ b + k ≤ h)) := by
  unfold newB
  rw [has20, has20, has20]
  omega
theorem bad_two {n : Nat} {a b : Int} (h : (n : Int) ≤ b) : ¬ Good n [a, b] := fun ⟨h1, _⟩ => by have := h1 b (by simp); omega
theorem same_two {n : Nat} {a : Int} : ¬ Good n [a, a] := fun ⟨_, h2⟩ => by simp at h2
theorem bad_one {n : Nat} {a : Int} (h : a < 0) : ¬ Good n [a] := fun ⟨h1, _⟩ => by have := h1 a (by simp); omega
theorem env20 {w w' w2 : World} {p g q : Nat} {k : Int} {n : Nat} (M : Mem w p g (St.zero 20)) (W : Whole w' q 72 #[.pointer (some ⟨p, 0, none⟩), .int .i64 0, .int .i64 1, .int .i64 k]) (hk : k = n) (n0 : 1 ≤ n) (n1 : n ≤ 15) (hq : w.heap.size ≤ q) (u : Up w w') (u2 : Up w' w2) : Env w2 p g q 0 1 n (St.zero 20) := by
  subst hk
  have h1 := M.top.lt
  have h2 := M.row.lt
  exact ⟨M.up (u.trans u2), W.up u2, St.Ok.zero _, by omega, by omega, n0, by omega, by rw [zero_len]; omega, by rw [zero_len]; omega, by rw [zero_len]; omega, .inl (by omega)⟩

set_option maxRecDepth 100000 in
set_option maxHeartbeats 8000000 in
theorem walk (a0 : Int) (a1 : Int) (a2 : Int) (a3 : Int) (w : World) (w0 : (Lit.int .i64 a0).wf = true) (w1 : (Lit.int .i64 a1).wf = true) (w2 : (Lit.int .i64 a2).wf = true) (w3 : (Lit.int .i64 a3).wf = true) :
    Calls Try.prog 8 #[.int .i64 a0, .int .i64 a1, .int .i64 a2, .int .i64 a3] w fun e w' => e = .returned (.bool true) ∧ Up w w' := by
  obtain ⟨b0, b1⟩ := i64_in w1
  obtain ⟨b2, b3⟩ := i64_in w2
  clear w0 w1 w2 w3
  obtain ⟨x, hx, _, x0, x1⟩ := emod_letter a0 15 (by decide)
  obtain ⟨y, hy, _, y0, y1⟩ := emod_letter a0 5 (by decide)
  obtain ⟨z, hz, _, z0, z1⟩ := emod_letter a3 1000 (by decide)
  obtain ⟨n, hn⟩ : ∃ n : Nat, 1 + x = n := ⟨(1 + x).toNat, by omega⟩
  have HX := Lib.hid hx
  have HY := Lib.hid hy
  have HZ := Lib.hid hz
  have HN := Lib.hid hn
  have n0 : 1 ≤ n := by omega
  have n1 : n ≤ 15 := by omega
  have hs20 : (St.zero 20).xs.length ≤ 8388608 := by rw [zero_len]; omega
  have NB2 := Lib.hid (show ¬ newB (St.zero 20) 0 1 (-y) from fun h => by have := h.1; omega)
  have NB3 := Lib.hid (show ¬ newB (St.zero 20) 0 1 (4096 + (1 + x)) from fun h => by have := h.2.1; omega)
  have NB4 := Lib.hid (show newB (St.zero 20) 0 1 (1 + x) from (new20 (by omega) (by omega)).2 (by omega))
  have G1 := Lib.hid (show ¬ Good n [0, 1 + x + z] from bad_two (by omega))
  have G2 := Lib.hid (show ¬ Good n [1 + x - 1, 1 + x - 1] from same_two)
  have G3 := Lib.hid (show ¬ Good n [-1 - z] from bad_one (by omega))
  have hc20 := zero_c 20
  clear hx hy hz hn
  have e20 : (20 : Int) = ((20 : Nat) : Int) := rfl
  have E20 := Lib.hid e20
  clear e20
  have key := @new20 a1 a2 (1 + x) (by omega) (by omega)
  rcases (show a1 < 0 ∨ (0 ≤ a1 ∧ 20 ≤ a1) ∨ (0 ≤ a1 ∧ a1 < 20 ∧ a2 < 0) ∨ (0 ≤ a1 ∧ a1 < 20 ∧ 0 ≤ a2 ∧ 20 - (1 + x) < a2) ∨ (0 ≤ a1 ∧ a1 < 20 ∧ 0 ≤ a2 ∧ a2 ≤ 20 - (1 + x) ∧ a2 ≤ a1 ∧ a1 < a2 + (1 + x)) ∨ (0 ≤ a1 ∧ a1 < 20 ∧ 0 ≤ a2 ∧ a2 ≤ 20 - (1 + x) ∧ a1 < a2) ∨ (0 ≤ a1 ∧ a1 < 20 ∧ 0 ≤ a2 ∧ a2 ≤ 20 - (1 + x) ∧ a2 ≤ a1 ∧ a2 + (1 + x) ≤ a1) by omega) with c1 | ⟨c1, c2⟩ | ⟨c1, c2, c3⟩ | ⟨c1, c2, c3, c4⟩ | ⟨c1, c2, c3, c4, c5, c6⟩ | ⟨c1, c2, c3, c4, c5⟩ | ⟨c1, c2, c3, c4, c5, c6⟩
  · have NB1 := Lib.hid (show ¬ newB (St.zero 20) a1 a2 (1 + x) by rw [key]; omega)
    clear key
    go_enter Try.func8, Try.ntmps8
    go_upto_region 11 with (first
      | (go_at_call 9; refine (first_any _).mono ?_; rintro e w1 ⟨rfl, U1⟩)
      | (go_at_call 10; (with_reducible refine (number_is HX.out (by decide) (by decide) _).mono ?_); rintro e w' ⟨rfl, rfl⟩)
      | (go_at_call 33; refine (new_is E20.out (by decide) (by decide) _).mono ?_; rintro e w2 ⟨rfl, M2, U2⟩; have M := Lib.hid M2; clear M2)
      | (go_at_call 34; (with_reducible refine (snew_no M.out hs20 NB1.out).mono ?_); rintro e w3 ⟨rfl, rfl⟩))
    have M3 := Lib.hid M.out
    have U3 := Lib.hid (U1.trans U2)
    clear U1 U2 M
    go_wp2_with (first
      | (go_at_call 10; (with_reducible refine (number_is HY.out (by decide) (by decide) _).mono ?_); rintro e w' ⟨rfl, rfl⟩)
      | (go_at_call 10; (with_reducible refine (number_is HZ.out (by decide) (by decide) _).mono ?_); rintro e w' ⟨rfl, rfl⟩)
      | (go_at_call 34; (with_reducible refine (snew_no M3.out hs20 NB2.out).mono ?_); rintro e w' ⟨rfl, rfl⟩)
      | (go_at_call 34; (with_reducible refine (snew_no M3.out hs20 NB3.out).mono ?_); rintro e w' ⟨rfl, rfl⟩)
      | (go_at_call 34; (with_reducible refine (snew_yes M3.out hs20 NB4.out).mono ?_); rintro e w4 ⟨rfl, V4, W4⟩; have HV4 := Lib.hid V4; have HW4 := Lib.hid W4; clear V4 W4)
      | (go_at_call 25; (with_reducible refine (spush_no (env20 M3.out HW4.out HN.out n0 n1 (Nat.le_refl _) HV4.out (Up.alloc _ _)) (rd_two _ _ _) G1.out).mono ?_); rintro e w5 ⟨rfl, U5⟩; have HU5 := Lib.hid ((Up.alloc _ _).trans U5); clear U5)
      | (go_at_call 25; (with_reducible refine (spush_no (env20 M3.out HW4.out HN.out n0 n1 (Nat.le_refl _) HV4.out (HU5.out.then_alloc _)) (rd_two _ _ _) G2.out).mono ?_); rintro e w6 ⟨rfl, U6⟩; have HU6 := Lib.hid ((HU5.out.then_alloc _).trans U6); clear U6)
      | (go_at_call 25; (with_reducible refine (spush_no (env20 M3.out HW4.out HN.out n0 n1 (Nat.le_refl _) HV4.out (HU6.out.then_alloc _)) (rd_one _ _) G3.out).mono ?_); rintro e w7 ⟨rfl, U7⟩; have HU7 := Lib.hid ((HU6.out.then_alloc _).trans U7); clear U7; have HM7 := Lib.hid (M3.out.up (HV4.out.trans HU7.out)))
      | (go_at_call 35; (with_reducible refine (count_to HM7.out hc20).mono ?_); rintro e w' ⟨rfl, rfl⟩))
    go_ret
    exact ⟨rfl, (U3.out.trans HV4.out).trans HU7.out⟩
  · have NB1 := Lib.hid (show ¬ newB (St.zero 20) a1 a2 (1 + x) by rw [key]; omega)
    clear key
    go_enter Try.func8, Try.ntmps8
    go_upto_region 11 with (first
      | (go_at_call 9; refine (first_any _).mono ?_; rintro e w1 ⟨rfl, U1⟩)
      | (go_at_call 10; (with_reducible refine (number_is HX.out (by decide) (by decide) _).mono ?_); rintro e w' ⟨rfl, rfl⟩)
      | (go_at_call 33; refine (new_is E20.out (by decide) (by decide) _).mono ?_; rintro e w2 ⟨rfl, M2, U2⟩; have M := Lib.hid M2; clear M2)
      | (go_at_call 34; (with_reducible refine (snew_no M.out hs20 NB1.out).mono ?_); rintro e w3 ⟨rfl, rfl⟩))
    have M3 := Lib.hid M.out
    have U3 := Lib.hid (U1.trans U2)
    clear U1 U2 M
    go_wp2_with (first
      | (go_at_call 10; (with_reducible refine (number_is HY.out (by decide) (by decide) _).mono ?_); rintro e w' ⟨rfl, rfl⟩)
      | (go_at_call 10; (with_reducible refine (number_is HZ.out (by decide) (by decide) _).mono ?_); rintro e w' ⟨rfl, rfl⟩)
      | (go_at_call 34; (with_reducible refine (snew_no M3.out hs20 NB2.out).mono ?_); rintro e w' ⟨rfl, rfl⟩)
      | (go_at_call 34; (with_reducible refine (snew_no M3.out hs20 NB3.out).mono ?_); rintro e w' ⟨rfl, rfl⟩)
      | (go_at_call 34; (with_reducible refine (snew_yes M3.out hs20 NB4.out).mono ?_); rintro e w4 ⟨rfl, V4, W4⟩; have HV4 := Lib.hid V4; have HW4 := Lib.hid W4; clear V4 W4)
      | (go_at_call 25; (with_reducible refine (spush_no (env20 M3.out HW4.out HN.out n0 n1 (Nat.le_refl _) HV4.out (Up.alloc _ _)) (rd_two _ _ _) G1.out).mono ?_); rintro e w5 ⟨rfl, U5⟩; have HU5 := Lib.hid ((Up.alloc _ _).trans U5); clear U5)
      | (go_at_call 25; (with_reducible refine (spush_no (env20 M3.out HW4.out HN.out n0 n1 (Nat.le_refl _) HV4.out (HU5.out.then_alloc _)) (rd_two _ _ _) G2.out).mono ?_); rintro e w6 ⟨rfl, U6⟩; have HU6 := Lib.hid ((HU5.out.then_alloc _).trans U6); clear U6)
      | (go_at_call 25; (with_reducible refine (spush_no (env20 M3.out HW4.out HN.out n0 n1 (Nat.le_refl _) HV4.out (HU6.out.then_alloc _)) (rd_one _ _) G3.out).mono ?_); rintro e w7 ⟨rfl, U7⟩; have HU7 := Lib.hid ((HU6.out.then_alloc _).trans U7); clear U7; have HM7 := Lib.hid (M3.out.up (HV4.out.trans HU7.out)))
      | (go_at_call 35; (with_reducible refine (count_to HM7.out hc20).mono ?_); rintro e w' ⟨rfl, rfl⟩))
    go_ret
    exact ⟨rfl, (U3.out.trans HV4.out).trans HU7.out⟩
  · have NB1 := Lib.hid (show ¬ newB (St.zero 20) a1 a2 (1 + x) by rw [key]; omega)
    clear key
    go_enter Try.func8, Try.ntmps8
    go_upto_region 11 with (first
      | (go_at_call 9; refine (first_any _).mono ?_; rintro e w1 ⟨rfl, U1⟩)
      | (go_at_call 10; (with_reducible refine (number_is HX.out (by decide) (by decide) _).mono ?_); rintro e w' ⟨rfl, rfl⟩)
      | (go_at_call 33; refine (new_is E20.out (by decide) (by decide) _).mono ?_; rintro e w2 ⟨rfl, M2, U2⟩; have M := Lib.hid M2; clear M2)
      | (go_at_call 34; (with_reducible refine (snew_no M.out hs20 NB1.out).mono ?_); rintro e w3 ⟨rfl, rfl⟩))
    have M3 := Lib.hid M.out
    have U3 := Lib.hid (U1.trans U2)
    clear U1 U2 M
    go_wp2_with (first
      | (go_at_call 10; (with_reducible refine (number_is HY.out (by decide) (by decide) _).mono ?_); rintro e w' ⟨rfl, rfl⟩)
      | (go_at_call 10; (with_reducible refine (number_is HZ.out (by decide) (by decide) _).mono ?_); rintro e w' ⟨rfl, rfl⟩)
      | (go_at_call 34; (with_reducible refine (snew_no M3.out hs20 NB2.out).mono ?_); rintro e w' ⟨rfl, rfl⟩)
      | (go_at_call 34; (with_reducible refine (snew_no M3.out hs20 NB3.out).mono ?_); rintro e w' ⟨rfl, rfl⟩)
      | (go_at_call 34; (with_reducible refine (snew_yes M3.out hs20 NB4.out).mono ?_); rintro e w4 ⟨rfl, V4, W4⟩; have HV4 := Lib.hid V4; have HW4 := Lib.hid W4; clear V4 W4)
      | (go_at_call 25; (with_reducible refine (spush_no (env20 M3.out HW4.out HN.out n0 n1 (Nat.le_refl _) HV4.out (Up.alloc _ _)) (rd_two _ _ _) G1.out).mono ?_); rintro e w5 ⟨rfl, U5⟩; have HU5 := Lib.hid ((Up.alloc _ _).trans U5); clear U5)
      | (go_at_call 25; (with_reducible refine (spush_no (env20 M3.out HW4.out HN.out n0 n1 (Nat.le_refl _) HV4.out (HU5.out.then_alloc _)) (rd_two _ _ _) G2.out).mono ?_); rintro e w6 ⟨rfl, U6⟩; have HU6 := Lib.hid ((HU5.out.then_alloc _).trans U6); clear U6)
      | (go_at_call 25; (with_reducible refine (spush_no (env20 M3.out HW4.out HN.out n0 n1 (Nat.le_refl _) HV4.out (HU6.out.then_alloc _)) (rd_one _ _) G3.out).mono ?_); rintro e w7 ⟨rfl, U7⟩; have HU7 := Lib.hid ((HU6.out.then_alloc _).trans U7); clear U7; have HM7 := Lib.hid (M3.out.up (HV4.out.trans HU7.out)))
      | (go_at_call 35; (with_reducible refine (count_to HM7.out hc20).mono ?_); rintro e w' ⟨rfl, rfl⟩))
    go_ret
    exact ⟨rfl, (U3.out.trans HV4.out).trans HU7.out⟩
  · have NB1 := Lib.hid (show ¬ newB (St.zero 20) a1 a2 (1 + x) by rw [key]; omega)
    clear key
    go_enter Try.func8, Try.ntmps8
    go_upto_region 11 with (first
      | (go_at_call 9; refine (first_any _).mono ?_; rintro e w1 ⟨rfl, U1⟩)
      | (go_at_call 10; (with_reducible refine (number_is HX.out (by decide) (by decide) _).mono ?_); rintro e w' ⟨rfl, rfl⟩)
      | (go_at_call 33; refine (new_is E20.out (by decide) (by decide) _).mono ?_; rintro e w2 ⟨rfl, M2, U2⟩; have M := Lib.hid M2; clear M2)
      | (go_at_call 34; (with_reducible refine (snew_no M.out hs20 NB1.out).mono ?_); rintro e w3 ⟨rfl, rfl⟩))
    have M3 := Lib.hid M.out
    have U3 := Lib.hid (U1.trans U2)
    clear U1 U2 M
    go_wp2_with (first
      | (go_at_call 10; (with_reducible refine (number_is HY.out (by decide) (by decide) _).mono ?_); rintro e w' ⟨rfl, rfl⟩)
      | (go_at_call 10; (with_reducible refine (number_is HZ.out (by decide) (by decide) _).mono ?_); rintro e w' ⟨rfl, rfl⟩)
      | (go_at_call 34; (with_reducible refine (snew_no M3.out hs20 NB2.out).mono ?_); rintro e w' ⟨rfl, rfl⟩)
      | (go_at_call 34; (with_reducible refine (snew_no M3.out hs20 NB3.out).mono ?_); rintro e w' ⟨rfl, rfl⟩)
      | (go_at_call 34; (with_reducible refine (snew_yes M3.out hs20 NB4.out).mono ?_); rintro e w4 ⟨rfl, V4, W4⟩; have HV4 := Lib.hid V4; have HW4 := Lib.hid W4; clear V4 W4)
      | (go_at_call 25; (with_reducible refine (spush_no (env20 M3.out HW4.out HN.out n0 n1 (Nat.le_refl _) HV4.out (Up.alloc _ _)) (rd_two _ _ _) G1.out).mono ?_); rintro e w5 ⟨rfl, U5⟩; have HU5 := Lib.hid ((Up.alloc _ _).trans U5); clear U5)
      | (go_at_call 25; (with_reducible refine (spush_no (env20 M3.out HW4.out HN.out n0 n1 (Nat.le_refl _) HV4.out (HU5.out.then_alloc _)) (rd_two _ _ _) G2.out).mono ?_); rintro e w6 ⟨rfl, U6⟩; have HU6 := Lib.hid ((HU5.out.then_alloc _).trans U6); clear U6)
      | (go_at_call 25; (with_reducible refine (spush_no (env20 M3.out HW4.out HN.out n0 n1 (Nat.le_refl _) HV4.out (HU6.out.then_alloc _)) (rd_one _ _) G3.out).mono ?_); rintro e w7 ⟨rfl, U7⟩; have HU7 := Lib.hid ((HU6.out.then_alloc _).trans U7); clear U7; have HM7 := Lib.hid (M3.out.up (HV4.out.trans HU7.out)))
      | (go_at_call 35; (with_reducible refine (count_to HM7.out hc20).mono ?_); rintro e w' ⟨rfl, rfl⟩))
    go_ret
    exact ⟨rfl, (U3.out.trans HV4.out).trans HU7.out⟩
  · have NB1 := Lib.hid (show ¬ newB (St.zero 20) a1 a2 (1 + x) by rw [key]; omega)
    clear key
    go_enter Try.func8, Try.ntmps8
    go_upto_region 11 with (first
      | (go_at_call 9; refine (first_any _).mono ?_; rintro e w1 ⟨rfl, U1⟩)
      | (go_at_call 10; (with_reducible refine (number_is HX.out (by decide) (by decide) _).mono ?_); rintro e w' ⟨rfl, rfl⟩)
      | (go_at_call 33; refine (new_is E20.out (by decide) (by decide) _).mono ?_; rintro e w2 ⟨rfl, M2, U2⟩; have M := Lib.hid M2; clear M2)
      | (go_at_call 34; (with_reducible refine (snew_no M.out hs20 NB1.out).mono ?_); rintro e w3 ⟨rfl, rfl⟩))
    have M3 := Lib.hid M.out
    have U3 := Lib.hid (U1.trans U2)
    clear U1 U2 M
    go_wp2_with (first
      | (go_at_call 10; (with_reducible refine (number_is HY.out (by decide) (by decide) _).mono ?_); rintro e w' ⟨rfl, rfl⟩)
      | (go_at_call 10; (with_reducible refine (number_is HZ.out (by decide) (by decide) _).mono ?_); rintro e w' ⟨rfl, rfl⟩)
      | (go_at_call 34; (with_reducible refine (snew_no M3.out hs20 NB2.out).mono ?_); rintro e w' ⟨rfl, rfl⟩)
      | (go_at_call 34; (with_reducible refine (snew_no M3.out hs20 NB3.out).mono ?_); rintro e w' ⟨rfl, rfl⟩)
      | (go_at_call 34; (with_reducible refine (snew_yes M3.out hs20 NB4.out).mono ?_); rintro e w4 ⟨rfl, V4, W4⟩; have HV4 := Lib.hid V4; have HW4 := Lib.hid W4; clear V4 W4)
      | (go_at_call 25; (with_reducible refine (spush_no (env20 M3.out HW4.out HN.out n0 n1 (Nat.le_refl _) HV4.out (Up.alloc _ _)) (rd_two _ _ _) G1.out).mono ?_); rintro e w5 ⟨rfl, U5⟩; have HU5 := Lib.hid ((Up.alloc _ _).trans U5); clear U5)
      | (go_at_call 25; (with_reducible refine (spush_no (env20 M3.out HW4.out HN.out n0 n1 (Nat.le_refl _) HV4.out (HU5.out.then_alloc _)) (rd_two _ _ _) G2.out).mono ?_); rintro e w6 ⟨rfl, U6⟩; have HU6 := Lib.hid ((HU5.out.then_alloc _).trans U6); clear U6)
      | (go_at_call 25; (with_reducible refine (spush_no (env20 M3.out HW4.out HN.out n0 n1 (Nat.le_refl _) HV4.out (HU6.out.then_alloc _)) (rd_one _ _) G3.out).mono ?_); rintro e w7 ⟨rfl, U7⟩; have HU7 := Lib.hid ((HU6.out.then_alloc _).trans U7); clear U7; have HM7 := Lib.hid (M3.out.up (HV4.out.trans HU7.out)))
      | (go_at_call 35; (with_reducible refine (count_to HM7.out hc20).mono ?_); rintro e w' ⟨rfl, rfl⟩))
    go_ret
    exact ⟨rfl, (U3.out.trans HV4.out).trans HU7.out⟩
  · have NB1 := Lib.hid (show newB (St.zero 20) a1 a2 (1 + x) by rw [key]; omega)
    clear key
    go_enter Try.func8, Try.ntmps8
    go_upto_region 11 with (first
      | (go_at_call 9; refine (first_any _).mono ?_; rintro e w1 ⟨rfl, U1⟩)
      | (go_at_call 10; (with_reducible refine (number_is HX.out (by decide) (by decide) _).mono ?_); rintro e w' ⟨rfl, rfl⟩)
      | (go_at_call 33; refine (new_is E20.out (by decide) (by decide) _).mono ?_; rintro e w2 ⟨rfl, M2, U2⟩; have M := Lib.hid M2; clear M2)
      | (go_at_call 34; (with_reducible refine (snew_yes M.out hs20 NB1.out).mono ?_); rintro e w3 ⟨rfl, V3, W3⟩))
    have M3 := Lib.hid (M.out.up V3)
    have U3 := Lib.hid ((U1.trans U2).trans V3)
    clear U1 U2 V3 W3 M
    go_wp2_with (first
      | (go_at_call 10; (with_reducible refine (number_is HY.out (by decide) (by decide) _).mono ?_); rintro e w' ⟨rfl, rfl⟩)
      | (go_at_call 10; (with_reducible refine (number_is HZ.out (by decide) (by decide) _).mono ?_); rintro e w' ⟨rfl, rfl⟩)
      | (go_at_call 34; (with_reducible refine (snew_no M3.out hs20 NB2.out).mono ?_); rintro e w' ⟨rfl, rfl⟩)
      | (go_at_call 34; (with_reducible refine (snew_no M3.out hs20 NB3.out).mono ?_); rintro e w' ⟨rfl, rfl⟩)
      | (go_at_call 34; (with_reducible refine (snew_yes M3.out hs20 NB4.out).mono ?_); rintro e w4 ⟨rfl, V4, W4⟩; have HV4 := Lib.hid V4; have HW4 := Lib.hid W4; clear V4 W4)
      | (go_at_call 25; (with_reducible refine (spush_no (env20 M3.out HW4.out HN.out n0 n1 (Nat.le_refl _) HV4.out (Up.alloc _ _)) (rd_two _ _ _) G1.out).mono ?_); rintro e w5 ⟨rfl, U5⟩; have HU5 := Lib.hid ((Up.alloc _ _).trans U5); clear U5)
      | (go_at_call 25; (with_reducible refine (spush_no (env20 M3.out HW4.out HN.out n0 n1 (Nat.le_refl _) HV4.out (HU5.out.then_alloc _)) (rd_two _ _ _) G2.out).mono ?_); rintro e w6 ⟨rfl, U6⟩; have HU6 := Lib.hid ((HU5.out.then_alloc _).trans U6); clear U6)
      | (go_at_call 25; (with_reducible refine (spush_no (env20 M3.out HW4.out HN.out n0 n1 (Nat.le_refl _) HV4.out (HU6.out.then_alloc _)) (rd_one _ _) G3.out).mono ?_); rintro e w7 ⟨rfl, U7⟩; have HU7 := Lib.hid ((HU6.out.then_alloc _).trans U7); clear U7; have HM7 := Lib.hid (M3.out.up (HV4.out.trans HU7.out)))
      | (go_at_call 35; (with_reducible refine (count_to HM7.out hc20).mono ?_); rintro e w' ⟨rfl, rfl⟩))
    go_ret
    exact ⟨rfl, (U3.out.trans HV4.out).trans HU7.out⟩
  · have NB1 := Lib.hid (show newB (St.zero 20) a1 a2 (1 + x) by rw [key]; omega)
    clear key
    go_enter Try.func8, Try.ntmps8
    go_upto_region 11 with (first
      | (go_at_call 9; refine (first_any _).mono ?_; rintro e w1 ⟨rfl, U1⟩)
      | (go_at_call 10; (with_reducible refine (number_is HX.out (by decide) (by decide) _).mono ?_); rintro e w' ⟨rfl, rfl⟩)
      | (go_at_call 33; refine (new_is E20.out (by decide) (by decide) _).mono ?_; rintro e w2 ⟨rfl, M2, U2⟩; have M := Lib.hid M2; clear M2)
      | (go_at_call 34; (with_reducible refine (snew_yes M.out hs20 NB1.out).mono ?_); rintro e w3 ⟨rfl, V3, W3⟩))
    have M3 := Lib.hid (M.out.up V3)
    have U3 := Lib.hid ((U1.trans U2).trans V3)
    clear U1 U2 V3 W3 M
    go_wp2_with (first
      | (go_at_call 10; (with_reducible refine (number_is HY.out (by decide) (by decide) _).mono ?_); rintro e w' ⟨rfl, rfl⟩)
      | (go_at_call 10; (with_reducible refine (number_is HZ.out (by decide) (by decide) _).mono ?_); rintro e w' ⟨rfl, rfl⟩)
      | (go_at_call 34; (with_reducible refine (snew_no M3.out hs20 NB2.out).mono ?_); rintro e w' ⟨rfl, rfl⟩)
      | (go_at_call 34; (with_reducible refine (snew_no M3.out hs20 NB3.out).mono ?_); rintro e w' ⟨rfl, rfl⟩)
      | (go_at_call 34; (with_reducible refine (snew_yes M3.out hs20 NB4.out).mono ?_); rintro e w4 ⟨rfl, V4, W4⟩; have HV4 := Lib.hid V4; have HW4 := Lib.hid W4; clear V4 W4)
      | (go_at_call 25; (with_reducible refine (spush_no (env20 M3.out HW4.out HN.out n0 n1 (Nat.le_refl _) HV4.out (Up.alloc _ _)) (rd_two _ _ _) G1.out).mono ?_); rintro e w5 ⟨rfl, U5⟩; have HU5 := Lib.hid ((Up.alloc _ _).trans U5); clear U5)
      | (go_at_call 25; (with_reducible refine (spush_no (env20 M3.out HW4.out HN.out n0 n1 (Nat.le_refl _) HV4.out (HU5.out.then_alloc _)) (rd_two _ _ _) G2.out).mono ?_); rintro e w6 ⟨rfl, U6⟩; have HU6 := Lib.hid ((HU5.out.then_alloc _).trans U6); clear U6)
      | (go_at_call 25; (with_reducible refine (spush_no (env20 M3.out HW4.out HN.out n0 n1 (Nat.le_refl _) HV4.out (HU6.out.then_alloc _)) (rd_one _ _) G3.out).mono ?_); rintro e w7 ⟨rfl, U7⟩; have HU7 := Lib.hid ((HU6.out.then_alloc _).trans U7); clear U7; have HM7 := Lib.hid (M3.out.up (HV4.out.trans HU7.out)))
      | (go_at_call 35; (with_reducible refine (count_to HM7.out hc20).mono ?_); rintro e w' ⟨rfl, rfl⟩))
    go_ret
    exact ⟨rfl, (U3.out.trans HV4.out).trans HU7.out⟩

set_option maxRecDepth 100000 in
theorem lifted (os : Os) (started : os.Started) (H : Type) (enc : TypeId × Value → H) :
    ReturnsInHanded {} Try.checked os 8 .any (Rows.stackRefusesSpec.pre6 enc Try.prog Try.f8 Rows.stackRefusesRow.domain false) (Rows.stackRefusesSpec.post enc Try.prog Try.f8 false true false false) := by
  refine returnsInHanded_of_change (C := Try.checked) own started (by kernel_rfl) Try.func8
    (ChangeSpec.witness6 (enc := enc) (C := Try.checked) false ⟨#[], #[.int .i64 0, .int .i64 0, .int .i64 0, .int .i64 0], []⟩ 8 (by kernel_rfl) (by kernel_rfl) (by kernel_rfl) (by kernel_rfl)) ?_
  intro W base args ds gs before hval0 hW hcnd _
  have hval : ∀ (j : Nat) t v, Try.f8.params[j]? = some t → args[j]? = some v → Value.okWide Try.prog W .any base t v := hval0
  have hW' := hW
  obtain ⟨p, q, hA0, hV, rfl, hfz, hnd⟩ := hW
  have hA : DataW.TrodAll enc Try.prog W 0 (fun _ => true) true Try.f8.params.toList args.toList ds p := hA0
  rw [Try.params8] at hA hval
  obtain ⟨v0, vs0, d0, ds0, p0, q0, hargs, rfl, rfl, h0, r0⟩ := trodAll_cons hA
  obtain ⟨v1, vs1, d1, ds1, p1, q1, rfl, rfl, rfl, h1, r1⟩ := trodAll_cons r0
  obtain ⟨v2, vs2, d2, ds2, p2, q2, rfl, rfl, rfl, h2, r2⟩ := trodAll_cons r1
  obtain ⟨v3, vs3, d3, ds3, p3, q3, rfl, rfl, rfl, h3, r3⟩ := trodAll_cons r2
  obtain ⟨rfl, rfl, rfl⟩ := trodAll_nil r3
  obtain rfl : args = #[v0, v1, v2, v3] := by cases args; simp_all
  obtain ⟨rfl, rfl⟩ := trodVars_none hV
  have k0 := h0
  have lt0 : ∀ x ∈ p0, x.block < W.heap.size := by obtain ⟨m, hm⟩ := k0; exact DataW.trod_lt m _ _ _ hm
  obtain ⟨a0, rfl, rfl, rfl, w0⟩ := open_int Try.underlying3 (hval 0 3 v0 rfl rfl) h0
  have k1 := h1
  have lt1 : ∀ x ∈ p1, x.block < W.heap.size := by obtain ⟨m, hm⟩ := k1; exact DataW.trod_lt m _ _ _ hm
  obtain ⟨a1, rfl, rfl, rfl, w1⟩ := open_int Try.underlying3 (hval 1 3 v1 rfl rfl) h1
  have k2 := h2
  have lt2 : ∀ x ∈ p2, x.block < W.heap.size := by obtain ⟨m, hm⟩ := k2; exact DataW.trod_lt m _ _ _ hm
  obtain ⟨a2, rfl, rfl, rfl, w2⟩ := open_int Try.underlying3 (hval 2 3 v2 rfl rfl) h2
  have k3 := h3
  have lt3 : ∀ x ∈ p3, x.block < W.heap.size := by obtain ⟨m, hm⟩ := k3; exact DataW.trod_lt m _ _ _ hm
  obtain ⟨a3, rfl, rfl, rfl, w3⟩ := open_int Try.underlying3 (hval 3 3 v3 rfl rfl) h3
  clear hA0 hval0
  refine (walk a0 a1 a2 a3 W w0 w1 w2 w3).mono fun e W' ⟨he, bel⟩ => ?_
  subst he
  exact ⟨_, rfl, _, _, _, [], _, [], hW', trodAll_mk1 (shut_bool Try.underlying4 _), (trodAll_cons_mk (Below.trod laidOut (by kernel_rfl) (of_decide_eq_true (by kernel_rfl)) k0 bel lt0) (trodAll_cons_mk (Below.trod laidOut (by kernel_rfl) (of_decide_eq_true (by kernel_rfl)) k1 bel lt1) (trodAll_cons_mk (Below.trod laidOut (by kernel_rfl) (of_decide_eq_true (by kernel_rfl)) k2 bel lt2) (trodAll_cons_mk (Below.trod laidOut (by kernel_rfl) (of_decide_eq_true (by kernel_rfl)) k3 bel lt3) trodAll_mk0)))), rfl, Below.frame bel _, fun h => by cases h⟩

theorem over : Rows.stackRefusesRow.holds Try.pinned (OpenSpec.ofChange Rows.stackRefusesSpec) :=
  OpenClaim.holds_of_wide 8 Try.f8 rfl rfl rfl rfl rfl rfl rfl ⟨rfl, rfl, rfl, rfl, rfl⟩ rfl rfl rfl rfl rfl (by kernel_rfl) Try.func8 (by kernel_rfl)
    (of_decide_eq_true (by kernel_rfl)) (by unfold Func.isWrapper; first | (rw [if_pos (by decide +kernel)]; kernel_rfl) | (rw [if_neg (by decide +kernel)]; exact ⟨rfl, rfl⟩))
    (fun os started H enc _ => lifted os started H enc)

/-- THE STATEMENT -/
theorem proved : Rows.StackRefusesSaid := over
#print axioms proved
end Go.Proofs.Ytalhbebpoohgkaa.stackRefuses
