/-
  EpochBars of layer 9: a worker that is pinned at an elder epoch bars an Advance, behind as many Loads as stand ahead of it; one at this epoch bars nothing; for all numbers.
-/
import Derived.Test.YtngaokhlcdlpfaaRows
import Derived.Test.YtngaokhlcdlpfaaEpRun
import Derived.WalkKit
import Derived.ProofKit
import Derived.OpenShut
import Derived.ShutString
import Derived.ChangeOld
import Derived.Below
import Derived.Carry
import Derived.Lib.SmallJoins
import Derived.BigQuiet
namespace Go.Proofs.Ytngaokhlcdlpfaa.epochBars
open Go.ChangeShapes Go.WideShapes Go.ChangeAt Go.RowKit Go.Joins Go.Proofs.Ytngaokhlcdlpfaa W64
open Go.ChangeMaps (open_string shut_string)
set_option linter.unusedVariables false

theorem own : ownKnob Try.prog.godebug = none := by kernel_rfl
theorem laidOut : laidOutB Try.prog = true := by kernel_rfl

def BarRel (W : World) (p g q b : Nat) (r : Rn) (i : Value) (wr : World) : Prop :=
  ∃ j : Nat, i = .int .i64 j ∧ j ≤ 10 ∧ Sit W wr p g q 5 (r.iter 5 j).xs (r.iter 5 j).c ∧ AdM wr b q 5 (r.iter 5 j).a

set_option maxHeartbeats 2000000 in
set_option maxRecDepth 100000 in
theorem walk (a0 : Int) (a1 : Int) (a2 : Int) (w : World) (w0 : (Lit.int .i64 a0).wf = true) (w1 : (Lit.int .i64 a1).wf = true) (w2 : (Lit.int .i64 a2).wf = true) :
    Calls Try.prog 6 #[.int .i64 a0, .int .i64 a1, .int .i64 a2] w fun e w' => e = .returned (.bool true) ∧ Up w w' := by
  clear w0 w1 w2
  obtain ⟨x, hx, _, x0, x1⟩ := emod_letter a0 1000 (by decide)
  obtain ⟨y, hy, _, y0, y1⟩ := emod_letter a1 3 (by decide)
  obtain ⟨u', hu', _, u0', u1'⟩ := emod_letter a2 5 (by decide)
  obtain ⟨u, rfl⟩ : ∃ t : Nat, u' = t := ⟨u'.toNat, by omega⟩
  have HX := Lib.hid hx
  have HY := Lib.hid hy
  have HU := Lib.hid hu'
  have HU5 := Lib.hid (show u < 5 by omega)
  have H5 := Lib.hid (show (5 : Int) = ((5 : Nat) : Int) from rfl)
  have H0 := Lib.hid (show (0 : Int) = ((0 : Nat) : Int) from rfl)
  have HI := Lib.hid (show 1 + (u : Int) = ((1 + u : Nat) : Int) by omega)
  have HK0 := Lib.hid (show 0 < (List.replicate 6 (0 : Int)).length by simp)
  have HT0 := Lib.hid (show 0 ≤ 1 + x by omega)
  have HT1 := Lib.hid (show 1 + x < 18446744073709551616 by omega)
  obtain ⟨X1, hX1⟩ : ∃ X1, (List.replicate 6 (0 : Int)).set 0 (1 + x) = X1 := ⟨_, rfl⟩
  have HX1 := Lib.hid hX1
  have HK1 := Lib.hid (show 1 + u < X1.length by rw [← hX1]; simp; omega)
  clear hX1
  clear hx hy hu'
  have ways : (y ≤ 0 ∧ 0 ≤ 1 + x - y) ∨ (0 < y ∧ 0 ≤ 1 + x - y) ∨ (0 < y ∧ 1 + x - y < 0) := by omega
  rcases ways with ⟨h1, h2⟩ | ⟨h1, h2⟩ | ⟨h1, h2⟩
  · obtain rfl : y = 0 := by omega
    obtain ⟨P, hP⟩ : ∃ P, P = 2 * (1 + x) + 1 := ⟨_, rfl⟩
    have HV := Lib.hid (show pinV (1 + x) = P by unfold pinV pinN; rw [if_pos (by unfold pinB; rw [inB_iff]; omega)]; exact hP.symm)
    have HB := Lib.hid (show pinB (1 + x) = true by unfold pinB; rw [inB_iff]; omega)
    have HP0 := Lib.hid (show 0 ≤ P by omega)
    have HP1 := Lib.hid (show P < 18446744073709551616 by omega)
    have HX2 := Lib.hid (show X1.set (1 + u) P = barXs (1 + x) P u by rw [← HX1.out]; rfl)
    have HR := Lib.hid (show (bar0 (1 + x) P u).iter 5 10 = ⟨(barXs (1 + x) P u).set 0 (1 + x + 1), ⟨7, 1 + x, true, true⟩, 7⟩ by
      rw [hP, show 1 + x = 1 + x by omega]; exact bar_same (by omega) (by omega) HU5.out)
    have HNW := Lib.hid (show epN (((barXs (1 + x) P u).set 0 (1 + x + 1)).getD 0 0) = 1 + x + 1 by rw [barXs_up, epN_small (by omega)])
    clear hP
    go_enter Try.func6, Try.ntmps6
    go_wp2_with (first
      | (go_at_call 8; refine (first_any _).mono ?_; rintro r wA ⟨rfl, UA⟩; have HUA := Lib.hid UA; clear UA)
      | (go_at_call 12; (with_reducible refine (number_is HX.out (by decide) (by decide) _).mono ?_); rintro r w' ⟨rfl, rfl⟩)
      | (go_at_call 12; (with_reducible refine (number_is HY.out (by decide) (by decide) _).mono ?_); rintro r w' ⟨rfl, rfl⟩)
      | (go_at_call 12; (with_reducible refine (number_is HU.out (by decide) (by decide) _).mono ?_); rintro r w' ⟨rfl, rfl⟩)
      | (go_at_call 9; (with_reducible refine (made_is H5.out (by decide) (by decide) _).mono ?_); rintro r w1 ⟨p, g, q, rfl, S1⟩; have HS1 := Lib.hid (show Sit wA w1 p g q 5 (List.replicate 6 0) 0 from S1); clear S1)
      | (go_at_call 29; (with_reducible refine (putPin_to HV.out HB.out _).mono ?_); rintro r w' ⟨rfl, rfl⟩)
      | (go_at_call 11; (with_reducible refine (lays HS1.out H0.out HK0.out HT0.out HT1.out HX1.out).mono ?_); rintro r w2 ⟨rfl, S2, E2⟩; have HS2 := Lib.hid S2; clear S2 E2)
      | (go_at_call 11; (with_reducible refine (lays HS2.out HI.out HK1.out HP0.out HP1.out HX2.out).mono ?_); rintro r w3 ⟨rfl, S3, E3⟩; have HS3 := Lib.hid S3; clear S3 E3)
      | (go_at_call 27; (with_reducible refine (adBegin HS3.out).mono ?_); rintro r w4 ⟨b, rfl, b1, b2, A, P4, S4, U4⟩; have HA := Lib.hid A; have HP4 := Lib.hid P4; have HS4 := Lib.hid S4; have HBB := Lib.hid (Nat.le_trans HS3.out.up.size b1); clear A P4 S4 U4 b1 b2))
    go_loopw [16] (fun i wr => BarRel wA p g q b (bar0 (1 + x) P u) i wr) (fun i _ => 10 - (intOf i).toNat)
    case atStart => exact ⟨0, rfl, by omega, HS4.out, HP4.out⟩
    case round =>
      obtain ⟨j, rfl, hj, S, M⟩ := hrel
      have HS := Lib.hid S
      have HM := Lib.hid M
      clear S M
      have i0 : (0 : Int) ≤ (j : Int) := Int.natCast_nonneg _
      by_cases hlt : j < 10
      · have i1 : (j : Int) < 10 := by omega
        have HC := Lib.hid (Rn.iter_c 5 (bar0 (1 + x) P u) rfl j)
        have HC0 := Lib.hid HC.out.1
        have HC1 := Lib.hid (show ((bar0 (1 + x) P u).iter 5 j).c ≤ 100000 by have := HC.out.2; omega)
        go_wp2_with (go_at_call 23; (with_reducible refine (adStep_run HS.out HA.out HBB.out HM.out HC0.out HC1.out).mono ?_); rintro r w5 ⟨d, rfl, R5⟩; have HR5 := Lib.hid R5; clear R5)
        go_roundw
        case rel => exact ⟨j + 1, by go_num, by omega, HR5.out.sit, HR5.out.mach⟩
        case measure => simp [intOf]; omega
      · have i1 : ¬ (j : Int) < 10 := by omega
        obtain rfl : j = 10 := by omega
        obtain ⟨R, hR⟩ : ∃ R, (bar0 (1 + x) P u).iter 5 10 = R := ⟨_, rfl⟩
        rw [hR] at HS HM
        have HQ := HR.out
        rw [hR] at HQ
        have HT := Lib.hid (show R.a.fin = true by rw [HQ])
        have HWN := Lib.hid (show R.a.won = true by rw [HQ])
        have HCC := Lib.hid (show R.c = 7 by rw [HQ])
        have HNR := Lib.hid (show epN (R.xs.getD 0 0) = 1 + x + 1 by rw [HQ]; exact HNW.out)
        rw [HCC.out] at HS
        clear hR HQ
        skip
        go_wp2_with (first
          | (go_at_call 24; (with_reducible refine (adDone HM.out HT.out).mono ?_); rintro r w6 ⟨rfl, rfl⟩)
          | (go_at_call 28; (with_reducible refine (adWon HM.out HWN.out).mono ?_); rintro r w6 ⟨rfl, rfl⟩)
          | (go_at_call 17; (with_reducible refine (counts HS.out).mono ?_); rintro r w7 ⟨rfl, rfl⟩)
          | (go_at_call 18; (with_reducible refine (now_to HS.out HNR.out).mono ?_); rintro r w6 ⟨rfl, U6⟩; have HS6 := Lib.hid (HS.out.ups U6); clear U6))
        go_ret
        exact ⟨rfl, HUA.out.trans HS6.out.up⟩
  · skip
    obtain ⟨P, hP⟩ : ∃ P, P = 2 * (1 + x - y) + 1 := ⟨_, rfl⟩
    have HV := Lib.hid (show pinV (1 + x - y) = P by unfold pinV pinN; rw [if_pos (by unfold pinB; rw [inB_iff]; omega)]; exact hP.symm)
    have HB := Lib.hid (show pinB (1 + x - y) = true by unfold pinB; rw [inB_iff]; omega)
    have HP0 := Lib.hid (show 0 ≤ P by omega)
    have HP1 := Lib.hid (show P < 18446744073709551616 by omega)
    have HX2 := Lib.hid (show X1.set (1 + u) P = barXs (1 + x) P u by rw [← HX1.out]; rfl)
    have HR := Lib.hid (show (bar0 (1 + x) P u).iter 5 10 = ⟨barXs (1 + x) P u, ⟨u + 2, 1 + x, false, true⟩, 2 + (u : Int)⟩ by
      rw [hP]; exact bar_else (by omega) (by omega) HU5.out)
    have HNW := Lib.hid (show epN ((barXs (1 + x) P u).getD 0 0) = 1 + x by rw [barXs_head, epN_small (by omega)])
    clear hP
    go_enter Try.func6, Try.ntmps6
    go_wp2_with (first
      | (go_at_call 8; refine (first_any _).mono ?_; rintro r wA ⟨rfl, UA⟩; have HUA := Lib.hid UA; clear UA)
      | (go_at_call 12; (with_reducible refine (number_is HX.out (by decide) (by decide) _).mono ?_); rintro r w' ⟨rfl, rfl⟩)
      | (go_at_call 12; (with_reducible refine (number_is HY.out (by decide) (by decide) _).mono ?_); rintro r w' ⟨rfl, rfl⟩)
      | (go_at_call 12; (with_reducible refine (number_is HU.out (by decide) (by decide) _).mono ?_); rintro r w' ⟨rfl, rfl⟩)
      | (go_at_call 9; (with_reducible refine (made_is H5.out (by decide) (by decide) _).mono ?_); rintro r w1 ⟨p, g, q, rfl, S1⟩; have HS1 := Lib.hid (show Sit wA w1 p g q 5 (List.replicate 6 0) 0 from S1); clear S1)
      | (go_at_call 29; (with_reducible refine (putPin_to HV.out HB.out _).mono ?_); rintro r w' ⟨rfl, rfl⟩)
      | (go_at_call 11; (with_reducible refine (lays HS1.out H0.out HK0.out HT0.out HT1.out HX1.out).mono ?_); rintro r w2 ⟨rfl, S2, E2⟩; have HS2 := Lib.hid S2; clear S2 E2)
      | (go_at_call 11; (with_reducible refine (lays HS2.out HI.out HK1.out HP0.out HP1.out HX2.out).mono ?_); rintro r w3 ⟨rfl, S3, E3⟩; have HS3 := Lib.hid S3; clear S3 E3)
      | (go_at_call 27; (with_reducible refine (adBegin HS3.out).mono ?_); rintro r w4 ⟨b, rfl, b1, b2, A, P4, S4, U4⟩; have HA := Lib.hid A; have HP4 := Lib.hid P4; have HS4 := Lib.hid S4; have HBB := Lib.hid (Nat.le_trans HS3.out.up.size b1); clear A P4 S4 U4 b1 b2))
    go_loopw [16] (fun i wr => BarRel wA p g q b (bar0 (1 + x) P u) i wr) (fun i _ => 10 - (intOf i).toNat)
    case atStart => exact ⟨0, rfl, by omega, HS4.out, HP4.out⟩
    case round =>
      obtain ⟨j, rfl, hj, S, M⟩ := hrel
      have HS := Lib.hid S
      have HM := Lib.hid M
      clear S M
      have i0 : (0 : Int) ≤ (j : Int) := Int.natCast_nonneg _
      by_cases hlt : j < 10
      · have i1 : (j : Int) < 10 := by omega
        have HC := Lib.hid (Rn.iter_c 5 (bar0 (1 + x) P u) rfl j)
        have HC0 := Lib.hid HC.out.1
        have HC1 := Lib.hid (show ((bar0 (1 + x) P u).iter 5 j).c ≤ 100000 by have := HC.out.2; omega)
        go_wp2_with (go_at_call 23; (with_reducible refine (adStep_run HS.out HA.out HBB.out HM.out HC0.out HC1.out).mono ?_); rintro r w5 ⟨d, rfl, R5⟩; have HR5 := Lib.hid R5; clear R5)
        go_roundw
        case rel => exact ⟨j + 1, by go_num, by omega, HR5.out.sit, HR5.out.mach⟩
        case measure => simp [intOf]; omega
      · have i1 : ¬ (j : Int) < 10 := by omega
        obtain rfl : j = 10 := by omega
        obtain ⟨R, hR⟩ : ∃ R, (bar0 (1 + x) P u).iter 5 10 = R := ⟨_, rfl⟩
        rw [hR] at HS HM
        have HQ := HR.out
        rw [hR] at HQ
        have HT := Lib.hid (show R.a.fin = true by rw [HQ])
        have HWN := Lib.hid (show R.a.won = false by rw [HQ])
        have HCC := Lib.hid (show R.c = 2 + (u : Int) by rw [HQ])
        have HNR := Lib.hid (show epN (R.xs.getD 0 0) = 1 + x by rw [HQ]; exact HNW.out)
        rw [HCC.out] at HS
        clear hR HQ
        have hbe : (1 + x - y == 1 + x) = false := beq_eq_false_iff_ne.2 (by omega)
        go_wp2_with (first
          | (go_at_call 24; (with_reducible refine (adDone HM.out HT.out).mono ?_); rintro r w6 ⟨rfl, rfl⟩)
          | (go_at_call 28; (with_reducible refine (adWon HM.out HWN.out).mono ?_); rintro r w6 ⟨rfl, rfl⟩)
          | (go_at_call 17; (with_reducible refine (counts HS.out).mono ?_); rintro r w7 ⟨rfl, rfl⟩)
          | (go_at_call 18; (with_reducible refine (now_to HS.out HNR.out).mono ?_); rintro r w6 ⟨rfl, U6⟩; have HS6 := Lib.hid (HS.out.ups U6); clear U6))
        go_ret
        exact ⟨by first | rfl | exact ret_bool (by rw [show (1 + x == 1 + x + 1) = false from beq_eq_false_iff_ne.2 (by omega)]; rfl), HUA.out.trans HS6.out.up⟩
  · skip
    obtain ⟨P, hP⟩ : ∃ P, P = 2 * ((0 : Int)) + 1 := ⟨_, rfl⟩
    have HV := Lib.hid (show pinV ((0 : Int)) = P by unfold pinV pinN; rw [if_pos (by unfold pinB; rw [inB_iff]; omega)]; exact hP.symm)
    have HB := Lib.hid (show pinB ((0 : Int)) = true by unfold pinB; rw [inB_iff]; omega)
    have HP0 := Lib.hid (show 0 ≤ P by omega)
    have HP1 := Lib.hid (show P < 18446744073709551616 by omega)
    have HX2 := Lib.hid (show X1.set (1 + u) P = barXs (1 + x) P u by rw [← HX1.out]; rfl)
    have HR := Lib.hid (show (bar0 (1 + x) P u).iter 5 10 = ⟨barXs (1 + x) P u, ⟨u + 2, 1 + x, false, true⟩, 2 + (u : Int)⟩ by
      rw [hP]; exact bar_else (by omega) (by omega) HU5.out)
    have HNW := Lib.hid (show epN ((barXs (1 + x) P u).getD 0 0) = 1 + x by rw [barXs_head, epN_small (by omega)])
    clear hP
    go_enter Try.func6, Try.ntmps6
    go_wp2_with (first
      | (go_at_call 8; refine (first_any _).mono ?_; rintro r wA ⟨rfl, UA⟩; have HUA := Lib.hid UA; clear UA)
      | (go_at_call 12; (with_reducible refine (number_is HX.out (by decide) (by decide) _).mono ?_); rintro r w' ⟨rfl, rfl⟩)
      | (go_at_call 12; (with_reducible refine (number_is HY.out (by decide) (by decide) _).mono ?_); rintro r w' ⟨rfl, rfl⟩)
      | (go_at_call 12; (with_reducible refine (number_is HU.out (by decide) (by decide) _).mono ?_); rintro r w' ⟨rfl, rfl⟩)
      | (go_at_call 9; (with_reducible refine (made_is H5.out (by decide) (by decide) _).mono ?_); rintro r w1 ⟨p, g, q, rfl, S1⟩; have HS1 := Lib.hid (show Sit wA w1 p g q 5 (List.replicate 6 0) 0 from S1); clear S1)
      | (go_at_call 29; (with_reducible refine (putPin_to HV.out HB.out _).mono ?_); rintro r w' ⟨rfl, rfl⟩)
      | (go_at_call 11; (with_reducible refine (lays HS1.out H0.out HK0.out HT0.out HT1.out HX1.out).mono ?_); rintro r w2 ⟨rfl, S2, E2⟩; have HS2 := Lib.hid S2; clear S2 E2)
      | (go_at_call 11; (with_reducible refine (lays HS2.out HI.out HK1.out HP0.out HP1.out HX2.out).mono ?_); rintro r w3 ⟨rfl, S3, E3⟩; have HS3 := Lib.hid S3; clear S3 E3)
      | (go_at_call 27; (with_reducible refine (adBegin HS3.out).mono ?_); rintro r w4 ⟨b, rfl, b1, b2, A, P4, S4, U4⟩; have HA := Lib.hid A; have HP4 := Lib.hid P4; have HS4 := Lib.hid S4; have HBB := Lib.hid (Nat.le_trans HS3.out.up.size b1); clear A P4 S4 U4 b1 b2))
    go_loopw [16] (fun i wr => BarRel wA p g q b (bar0 (1 + x) P u) i wr) (fun i _ => 10 - (intOf i).toNat)
    case atStart => exact ⟨0, rfl, by omega, HS4.out, HP4.out⟩
    case round =>
      obtain ⟨j, rfl, hj, S, M⟩ := hrel
      have HS := Lib.hid S
      have HM := Lib.hid M
      clear S M
      have i0 : (0 : Int) ≤ (j : Int) := Int.natCast_nonneg _
      by_cases hlt : j < 10
      · have i1 : (j : Int) < 10 := by omega
        have HC := Lib.hid (Rn.iter_c 5 (bar0 (1 + x) P u) rfl j)
        have HC0 := Lib.hid HC.out.1
        have HC1 := Lib.hid (show ((bar0 (1 + x) P u).iter 5 j).c ≤ 100000 by have := HC.out.2; omega)
        go_wp2_with (go_at_call 23; (with_reducible refine (adStep_run HS.out HA.out HBB.out HM.out HC0.out HC1.out).mono ?_); rintro r w5 ⟨d, rfl, R5⟩; have HR5 := Lib.hid R5; clear R5)
        go_roundw
        case rel => exact ⟨j + 1, by go_num, by omega, HR5.out.sit, HR5.out.mach⟩
        case measure => simp [intOf]; omega
      · have i1 : ¬ (j : Int) < 10 := by omega
        obtain rfl : j = 10 := by omega
        obtain ⟨R, hR⟩ : ∃ R, (bar0 (1 + x) P u).iter 5 10 = R := ⟨_, rfl⟩
        rw [hR] at HS HM
        have HQ := HR.out
        rw [hR] at HQ
        have HT := Lib.hid (show R.a.fin = true by rw [HQ])
        have HWN := Lib.hid (show R.a.won = false by rw [HQ])
        have HCC := Lib.hid (show R.c = 2 + (u : Int) by rw [HQ])
        have HNR := Lib.hid (show epN (R.xs.getD 0 0) = 1 + x by rw [HQ]; exact HNW.out)
        rw [HCC.out] at HS
        clear hR HQ
        have hbe : ((0 : Int) == 1 + x) = false := beq_eq_false_iff_ne.2 (by omega)
        go_wp2_with (first
          | (go_at_call 24; (with_reducible refine (adDone HM.out HT.out).mono ?_); rintro r w6 ⟨rfl, rfl⟩)
          | (go_at_call 28; (with_reducible refine (adWon HM.out HWN.out).mono ?_); rintro r w6 ⟨rfl, rfl⟩)
          | (go_at_call 17; (with_reducible refine (counts HS.out).mono ?_); rintro r w7 ⟨rfl, rfl⟩)
          | (go_at_call 18; (with_reducible refine (now_to HS.out HNR.out).mono ?_); rintro r w6 ⟨rfl, U6⟩; have HS6 := Lib.hid (HS.out.ups U6); clear U6))
        go_ret
        exact ⟨by first | rfl | exact ret_bool (by rw [show (1 + x == 1 + x + 1) = false from beq_eq_false_iff_ne.2 (by omega)]; rfl), HUA.out.trans HS6.out.up⟩

set_option maxRecDepth 100000 in
theorem lifted (os : Os) (started : os.Started) (H : Type) (enc : TypeId × Value → H) :
    ReturnsInHanded {} Try.checked os 6 .any (Rows.epochBarsSpec.pre6 enc Try.prog Try.f6 Rows.epochBarsRow.domain false) (Rows.epochBarsSpec.post enc Try.prog Try.f6 false true false false) := by
  refine returnsInHanded_of_change (C := Try.checked) own started (by kernel_rfl) Try.func6
    (ChangeSpec.witness6 (enc := enc) (C := Try.checked) false ⟨#[], #[.int .i64 0, .int .i64 0, .int .i64 0], []⟩ 8 (by kernel_rfl) (by kernel_rfl) (by kernel_rfl) (by kernel_rfl)) ?_
  intro W base args ds gs before hval0 hW hcnd _
  have hval : ∀ (j : Nat) t v, Try.f6.params[j]? = some t → args[j]? = some v → Value.okWide Try.prog W .any base t v := hval0
  have hW' := hW
  obtain ⟨p, q, hA0, hV, rfl, hfz, hnd⟩ := hW
  have hA : DataW.TrodAll enc Try.prog W 0 (fun _ => true) true Try.f6.params.toList args.toList ds p := hA0
  rw [Try.params6] at hA hval
  obtain ⟨v0, vs0, d0, ds0, p0, q0, hargs, rfl, rfl, h0, r0⟩ := trodAll_cons hA
  obtain ⟨v1, vs1, d1, ds1, p1, q1, rfl, rfl, rfl, h1, r1⟩ := trodAll_cons r0
  obtain ⟨v2, vs2, d2, ds2, p2, q2, rfl, rfl, rfl, h2, r2⟩ := trodAll_cons r1
  obtain ⟨rfl, rfl, rfl⟩ := trodAll_nil r2
  obtain rfl : args = #[v0, v1, v2] := by cases args; simp_all
  obtain ⟨rfl, rfl⟩ := trodVars_none hV
  have k0 := h0
  have lt0 : ∀ x ∈ p0, x.block < W.heap.size := by obtain ⟨m, hm⟩ := k0; exact DataW.trod_lt m _ _ _ hm
  obtain ⟨a0, rfl, rfl, rfl, w0⟩ := open_int Try.underlying3 (hval 0 3 v0 rfl rfl) h0
  have k1 := h1
  have lt1 : ∀ x ∈ p1, x.block < W.heap.size := by obtain ⟨m, hm⟩ := k1; exact DataW.trod_lt m _ _ _ hm
  obtain ⟨a1, rfl, rfl, rfl, w1⟩ := open_int Try.underlying3 (hval 1 3 v1 rfl rfl) h1
  have k2 := h2
  have lt2 : ∀ x ∈ p2, x.block < W.heap.size := by obtain ⟨m, hm⟩ := k2; exact DataW.trod_lt m _ _ _ hm
  obtain ⟨a2, rfl, rfl, rfl, w2⟩ := open_int Try.underlying3 (hval 2 3 v2 rfl rfl) h2
  clear hA0 hval0
  refine (walk a0 a1 a2 W w0 w1 w2).mono fun e W' ⟨he, bel⟩ => ?_
  subst he
  exact ⟨_, rfl, _, _, _, [], _, [], hW', trodAll_mk1 (shut_bool Try.underlying4 _), (trodAll_cons_mk (Below.trod laidOut (by kernel_rfl) (of_decide_eq_true (by kernel_rfl)) k0 bel lt0) (trodAll_cons_mk (Below.trod laidOut (by kernel_rfl) (of_decide_eq_true (by kernel_rfl)) k1 bel lt1) (trodAll_cons_mk (Below.trod laidOut (by kernel_rfl) (of_decide_eq_true (by kernel_rfl)) k2 bel lt2) trodAll_mk0))), rfl, Below.frame bel _, fun h => by cases h⟩

theorem over : Rows.epochBarsRow.holds Try.pinned (OpenSpec.ofChange Rows.epochBarsSpec) :=
  OpenClaim.holds_of_wide 6 Try.f6 rfl rfl rfl rfl rfl rfl rfl ⟨rfl, rfl, rfl, rfl, rfl⟩ rfl rfl rfl rfl rfl (by kernel_rfl) Try.func6 (by kernel_rfl)
    (of_decide_eq_true (by kernel_rfl)) (by unfold Func.isWrapper; first | (rw [if_pos (by decide +kernel)]; kernel_rfl) | (rw [if_neg (by decide +kernel)]; exact ⟨rfl, rfl⟩))
    (fun os started H enc _ => lifted os started H enc)

/-- THE STATEMENT -/
theorem proved : Rows.EpochBarsSaid := over
#print axioms proved
end Go.Proofs.Ytngaokhlcdlpfaa.epochBars
