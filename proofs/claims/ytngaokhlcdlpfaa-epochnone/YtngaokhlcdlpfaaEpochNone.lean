/-
  EpochNone of layer 9: over cells that are none, or for workers that are none, nothing is made; for all numbers.
-/
import Derived.Test.YtngaokhlcdlpfaaRows
import Derived.Test.YtngaokhlcdlpfaaEpLaws
import Derived.WalkKit
import Derived.ProofKit
import Derived.OpenShut
import Derived.ShutString
import Derived.ChangeOld
import Derived.Below
import Derived.Carry
import Derived.Lib.SmallJoins
import Derived.BigQuiet
namespace Go.Proofs.Ytngaokhlcdlpfaa.epochNone
open Go.ChangeShapes Go.WideShapes Go.ChangeAt Go.RowKit Go.Joins Go.Proofs.Ytngaokhlcdlpfaa W64
open Go.ChangeMaps (open_string shut_string)
set_option linter.unusedVariables false

theorem own : ownKnob Try.prog.godebug = none := by kernel_rfl
theorem laidOut : laidOutB Try.prog = true := by kernel_rfl


set_option maxHeartbeats 2000000 in
set_option maxRecDepth 100000 in
theorem walk (a0 : Int) (a1 : Int) (a2 : Int) (a3 : Int) (w : World) (w0 : (Lit.int .i64 a0).wf = true) (w1 : (Lit.int .i64 a1).wf = true) (w2 : (Lit.int .i64 a2).wf = true) (w3 : (Lit.int .i64 a3).wf = true) :
    Calls Try.prog 7 #[.int .i64 a0, .int .i64 a1, .int .i64 a2, .int .i64 a3] w fun e w' => e = .returned (.bool true) ∧ Up w w' := by
  clear w0 w1 w2 w3
  obtain ⟨x, hx, _, x0, x1⟩ := emod_letter a2 10 (by decide)
  obtain ⟨k, rfl⟩ : ∃ t : Nat, x = t := ⟨x.toNat, by omega⟩
  obtain ⟨y, hy, _, y0, y1⟩ := emod_letter a2 9 (by decide)
  obtain ⟨z, hz, _, z0, z1⟩ := emod_letter a3 1000 (by decide)
  obtain ⟨v, hv, _, v0, v1⟩ := emod_letter a3 2 (by decide)
  have HX := Lib.hid hx
  have HY := Lib.hid hy
  have HZ := Lib.hid hz
  have HV := Lib.hid hv
  clear hx hy hz hv
  have hl : (St.zero 12).xs.length = 12 := by simp [St.zero]
  have HL := Lib.hid (show (St.zero 12).xs.length ≤ 8388608 by rw [hl]; omega)
  have NY := Lib.hid (show ¬ epoB (St.zero 12) 0 1 (-y) from fun h => by have := h.1; omega)
  have NZ := Lib.hid (show ¬ epoB (St.zero 12) 0 1 (64 + (1 + (k : Int))) from fun h => by have := h.2.1; omega)
  have NT := Lib.hid (show epoB (St.zero 12) 0 1 (1 + (k : Int)) from ⟨by omega, by omega, ⟨by omega, by rw [hl]; omega⟩, ⟨by omega, by rw [hl]; omega⟩, ⟨by omega, by rw [hl]; omega⟩, by omega⟩)
  have HN := Lib.hid (new_in 12 (by decide) (by decide))
  have NB1 := Lib.hid (show ¬ (0 ≤ 1 + (k : Int) + z ∧ 1 + (k : Int) + z < ((1 + k : Nat) : Int)) by omega)
  have NB2 := Lib.hid (show ¬ (0 ≤ -1 - z ∧ -1 - z < ((1 + k : Nat) : Int)) by omega)
  have key : ∀ {w1 w2 : World} {p g q : Nat}, Mem w1 p g (St.zero 12) → w1.heap.size ≤ q → Up w1 w2 → Whole w2 q 88 #[.pointer (some ⟨p, 0, none⟩), .int .i64 0, .int .i64 1, .int .i64 (1 + (k : Int))] → Epo w2 p g q 0 1 (1 + k) (St.zero 12) := by
    intro w1 w2 p g q M hq U O
    have l1 := M.top.lt
    have l2 := M.row.lt
    exact ⟨M.up U, O, St.Ok.zero _, by omega, by omega, by omega, by omega, by rw [hl]; omega, by rw [hl]; omega, HL.out, .inl (by omega)⟩
  have HK := Lib.hid (fun w1 w2 p g q => @key w1 w2 p g q)
  clear key hl
  have ways : (¬ 0 ≤ a0) ∨ (0 ≤ a0 ∧ ¬ a0 < 12) ∨ (0 ≤ a0 ∧ a0 < 12 ∧ ¬ 0 ≤ a1) ∨ (0 ≤ a0 ∧ a0 < 12 ∧ 0 ≤ a1 ∧ ¬ a1 ≤ 12 - (1 + (k : Int))) ∨ (0 ≤ a0 ∧ a0 < 12 ∧ 0 ≤ a1 ∧ a1 ≤ 12 - (1 + (k : Int)) ∧ a0 < a1) ∨ (0 ≤ a0 ∧ a0 < 12 ∧ 0 ≤ a1 ∧ a1 ≤ 12 - (1 + (k : Int)) ∧ ¬ a0 < a1 ∧ a1 + (1 + (k : Int)) ≤ a0) ∨ (0 ≤ a0 ∧ a0 < 12 ∧ 0 ≤ a1 ∧ a1 ≤ 12 - (1 + (k : Int)) ∧ ¬ a0 < a1 ∧ ¬ a1 + (1 + (k : Int)) ≤ a0) := by omega
  have wayv : v = 1 ∨ v = 0 := by omega
  rcases ways with h0 | ⟨h0, h1⟩ | ⟨h0, h1, h2⟩ | ⟨h0, h1, h2, h3⟩ | ⟨h0, h1, h2, h3, h4⟩ | ⟨h0, h1, h2, h3, h4, h5⟩ | ⟨h0, h1, h2, h3, h4, h5⟩
  · have NG := Lib.hid (show ¬ epoB (St.zero 12) a0 a1 (1 + (k : Int)) from fun h => by
      obtain ⟨_, _, ⟨q0, q1⟩, ⟨q2, q3⟩, ⟨q4, q5⟩, q6⟩ := h
      have hl : (St.zero 12).xs.length = 12 := by simp [St.zero]
      rw [hl] at q1 q3 q5
      omega)
    rcases wayv with rfl | rfl
    · go_enter Try.func7, Try.ntmps7
      go_wp2_with (first
        | (go_at_call 8; refine (first_any _).mono ?_; rintro r wA ⟨rfl, UA⟩)
        | (go_at_call 30; refine (HN.out _).mono ?_; rintro r w1 ⟨rfl, M1, U1⟩; have HM := Lib.hid M1; clear M1)
        | (go_at_call 12; (with_reducible refine (number_is HX.out (by decide) (by decide) _).mono ?_); rintro r w' ⟨rfl, rfl⟩)
        | (go_at_call 12; (with_reducible refine (number_is HY.out (by decide) (by decide) _).mono ?_); rintro r w' ⟨rfl, rfl⟩)
        | (go_at_call 12; (with_reducible refine (number_is HZ.out (by decide) (by decide) _).mono ?_); rintro r w' ⟨rfl, rfl⟩)
        | (go_at_call 12; (with_reducible refine (number_is HV.out (by decide) (by decide) _).mono ?_); rintro r w' ⟨rfl, rfl⟩)
        | (go_at_call 31; (with_reducible refine (enew_no HM.out HL.out NG.out).mono ?_); rintro r w3 ⟨rfl, rfl⟩)
        | (go_at_call 31; (with_reducible refine (enew_no HM.out HL.out NY.out).mono ?_); rintro r w' ⟨rfl, rfl⟩)
        | (go_at_call 31; (with_reducible refine (enew_no HM.out HL.out NZ.out).mono ?_); rintro r w' ⟨rfl, rfl⟩)
        | (go_at_call 31; (with_reducible refine (enew_yes HM.out HL.out NT.out).mono ?_); rintro r w4 ⟨rfl, U4, O4⟩; have HE := Lib.hid (HK.out _ _ _ _ _ HM.out (Nat.le_refl _) U4 O4); clear O4)
        | (go_at_call 20; (with_reducible refine (enNew_no HE.out NB2.out).mono ?_); rintro r w' ⟨rfl, rfl⟩)
        | (go_at_call 25; (with_reducible refine (leNew_no HE.out NB2.out).mono ?_); rintro r w' ⟨rfl, rfl⟩)
        | (go_at_call 15; (with_reducible refine (pinned_no HE.out NB2.out).mono ?_); rintro r w' ⟨rfl, rfl⟩)
        | (go_at_call 17; (with_reducible refine (count_to HE.out.mem (zero_c 12)).mono ?_); rintro r w' ⟨rfl, rfl⟩))
      go_ret
      exact ⟨rfl, (UA.trans U1).trans U4⟩
    · go_enter Try.func7, Try.ntmps7
      go_wp2_with (first
        | (go_at_call 8; refine (first_any _).mono ?_; rintro r wA ⟨rfl, UA⟩)
        | (go_at_call 30; refine (HN.out _).mono ?_; rintro r w1 ⟨rfl, M1, U1⟩; have HM := Lib.hid M1; clear M1)
        | (go_at_call 12; (with_reducible refine (number_is HX.out (by decide) (by decide) _).mono ?_); rintro r w' ⟨rfl, rfl⟩)
        | (go_at_call 12; (with_reducible refine (number_is HY.out (by decide) (by decide) _).mono ?_); rintro r w' ⟨rfl, rfl⟩)
        | (go_at_call 12; (with_reducible refine (number_is HZ.out (by decide) (by decide) _).mono ?_); rintro r w' ⟨rfl, rfl⟩)
        | (go_at_call 12; (with_reducible refine (number_is HV.out (by decide) (by decide) _).mono ?_); rintro r w' ⟨rfl, rfl⟩)
        | (go_at_call 31; (with_reducible refine (enew_no HM.out HL.out NG.out).mono ?_); rintro r w3 ⟨rfl, rfl⟩)
        | (go_at_call 31; (with_reducible refine (enew_no HM.out HL.out NY.out).mono ?_); rintro r w' ⟨rfl, rfl⟩)
        | (go_at_call 31; (with_reducible refine (enew_no HM.out HL.out NZ.out).mono ?_); rintro r w' ⟨rfl, rfl⟩)
        | (go_at_call 31; (with_reducible refine (enew_yes HM.out HL.out NT.out).mono ?_); rintro r w4 ⟨rfl, U4, O4⟩; have HE := Lib.hid (HK.out _ _ _ _ _ HM.out (Nat.le_refl _) U4 O4); clear O4)
        | (go_at_call 20; (with_reducible refine (enNew_no HE.out NB1.out).mono ?_); rintro r w' ⟨rfl, rfl⟩)
        | (go_at_call 25; (with_reducible refine (leNew_no HE.out NB1.out).mono ?_); rintro r w' ⟨rfl, rfl⟩)
        | (go_at_call 15; (with_reducible refine (pinned_no HE.out NB1.out).mono ?_); rintro r w' ⟨rfl, rfl⟩)
        | (go_at_call 17; (with_reducible refine (count_to HE.out.mem (zero_c 12)).mono ?_); rintro r w' ⟨rfl, rfl⟩))
      go_ret
      exact ⟨rfl, (UA.trans U1).trans U4⟩
  · have NG := Lib.hid (show ¬ epoB (St.zero 12) a0 a1 (1 + (k : Int)) from fun h => by
      obtain ⟨_, _, ⟨q0, q1⟩, ⟨q2, q3⟩, ⟨q4, q5⟩, q6⟩ := h
      have hl : (St.zero 12).xs.length = 12 := by simp [St.zero]
      rw [hl] at q1 q3 q5
      omega)
    rcases wayv with rfl | rfl
    · go_enter Try.func7, Try.ntmps7
      go_wp2_with (first
        | (go_at_call 8; refine (first_any _).mono ?_; rintro r wA ⟨rfl, UA⟩)
        | (go_at_call 30; refine (HN.out _).mono ?_; rintro r w1 ⟨rfl, M1, U1⟩; have HM := Lib.hid M1; clear M1)
        | (go_at_call 12; (with_reducible refine (number_is HX.out (by decide) (by decide) _).mono ?_); rintro r w' ⟨rfl, rfl⟩)
        | (go_at_call 12; (with_reducible refine (number_is HY.out (by decide) (by decide) _).mono ?_); rintro r w' ⟨rfl, rfl⟩)
        | (go_at_call 12; (with_reducible refine (number_is HZ.out (by decide) (by decide) _).mono ?_); rintro r w' ⟨rfl, rfl⟩)
        | (go_at_call 12; (with_reducible refine (number_is HV.out (by decide) (by decide) _).mono ?_); rintro r w' ⟨rfl, rfl⟩)
        | (go_at_call 31; (with_reducible refine (enew_no HM.out HL.out NG.out).mono ?_); rintro r w3 ⟨rfl, rfl⟩)
        | (go_at_call 31; (with_reducible refine (enew_no HM.out HL.out NY.out).mono ?_); rintro r w' ⟨rfl, rfl⟩)
        | (go_at_call 31; (with_reducible refine (enew_no HM.out HL.out NZ.out).mono ?_); rintro r w' ⟨rfl, rfl⟩)
        | (go_at_call 31; (with_reducible refine (enew_yes HM.out HL.out NT.out).mono ?_); rintro r w4 ⟨rfl, U4, O4⟩; have HE := Lib.hid (HK.out _ _ _ _ _ HM.out (Nat.le_refl _) U4 O4); clear O4)
        | (go_at_call 20; (with_reducible refine (enNew_no HE.out NB2.out).mono ?_); rintro r w' ⟨rfl, rfl⟩)
        | (go_at_call 25; (with_reducible refine (leNew_no HE.out NB2.out).mono ?_); rintro r w' ⟨rfl, rfl⟩)
        | (go_at_call 15; (with_reducible refine (pinned_no HE.out NB2.out).mono ?_); rintro r w' ⟨rfl, rfl⟩)
        | (go_at_call 17; (with_reducible refine (count_to HE.out.mem (zero_c 12)).mono ?_); rintro r w' ⟨rfl, rfl⟩))
      go_ret
      exact ⟨rfl, (UA.trans U1).trans U4⟩
    · go_enter Try.func7, Try.ntmps7
      go_wp2_with (first
        | (go_at_call 8; refine (first_any _).mono ?_; rintro r wA ⟨rfl, UA⟩)
        | (go_at_call 30; refine (HN.out _).mono ?_; rintro r w1 ⟨rfl, M1, U1⟩; have HM := Lib.hid M1; clear M1)
        | (go_at_call 12; (with_reducible refine (number_is HX.out (by decide) (by decide) _).mono ?_); rintro r w' ⟨rfl, rfl⟩)
        | (go_at_call 12; (with_reducible refine (number_is HY.out (by decide) (by decide) _).mono ?_); rintro r w' ⟨rfl, rfl⟩)
        | (go_at_call 12; (with_reducible refine (number_is HZ.out (by decide) (by decide) _).mono ?_); rintro r w' ⟨rfl, rfl⟩)
        | (go_at_call 12; (with_reducible refine (number_is HV.out (by decide) (by decide) _).mono ?_); rintro r w' ⟨rfl, rfl⟩)
        | (go_at_call 31; (with_reducible refine (enew_no HM.out HL.out NG.out).mono ?_); rintro r w3 ⟨rfl, rfl⟩)
        | (go_at_call 31; (with_reducible refine (enew_no HM.out HL.out NY.out).mono ?_); rintro r w' ⟨rfl, rfl⟩)
        | (go_at_call 31; (with_reducible refine (enew_no HM.out HL.out NZ.out).mono ?_); rintro r w' ⟨rfl, rfl⟩)
        | (go_at_call 31; (with_reducible refine (enew_yes HM.out HL.out NT.out).mono ?_); rintro r w4 ⟨rfl, U4, O4⟩; have HE := Lib.hid (HK.out _ _ _ _ _ HM.out (Nat.le_refl _) U4 O4); clear O4)
        | (go_at_call 20; (with_reducible refine (enNew_no HE.out NB1.out).mono ?_); rintro r w' ⟨rfl, rfl⟩)
        | (go_at_call 25; (with_reducible refine (leNew_no HE.out NB1.out).mono ?_); rintro r w' ⟨rfl, rfl⟩)
        | (go_at_call 15; (with_reducible refine (pinned_no HE.out NB1.out).mono ?_); rintro r w' ⟨rfl, rfl⟩)
        | (go_at_call 17; (with_reducible refine (count_to HE.out.mem (zero_c 12)).mono ?_); rintro r w' ⟨rfl, rfl⟩))
      go_ret
      exact ⟨rfl, (UA.trans U1).trans U4⟩
  · have NG := Lib.hid (show ¬ epoB (St.zero 12) a0 a1 (1 + (k : Int)) from fun h => by
      obtain ⟨_, _, ⟨q0, q1⟩, ⟨q2, q3⟩, ⟨q4, q5⟩, q6⟩ := h
      have hl : (St.zero 12).xs.length = 12 := by simp [St.zero]
      rw [hl] at q1 q3 q5
      omega)
    rcases wayv with rfl | rfl
    · go_enter Try.func7, Try.ntmps7
      go_wp2_with (first
        | (go_at_call 8; refine (first_any _).mono ?_; rintro r wA ⟨rfl, UA⟩)
        | (go_at_call 30; refine (HN.out _).mono ?_; rintro r w1 ⟨rfl, M1, U1⟩; have HM := Lib.hid M1; clear M1)
        | (go_at_call 12; (with_reducible refine (number_is HX.out (by decide) (by decide) _).mono ?_); rintro r w' ⟨rfl, rfl⟩)
        | (go_at_call 12; (with_reducible refine (number_is HY.out (by decide) (by decide) _).mono ?_); rintro r w' ⟨rfl, rfl⟩)
        | (go_at_call 12; (with_reducible refine (number_is HZ.out (by decide) (by decide) _).mono ?_); rintro r w' ⟨rfl, rfl⟩)
        | (go_at_call 12; (with_reducible refine (number_is HV.out (by decide) (by decide) _).mono ?_); rintro r w' ⟨rfl, rfl⟩)
        | (go_at_call 31; (with_reducible refine (enew_no HM.out HL.out NG.out).mono ?_); rintro r w3 ⟨rfl, rfl⟩)
        | (go_at_call 31; (with_reducible refine (enew_no HM.out HL.out NY.out).mono ?_); rintro r w' ⟨rfl, rfl⟩)
        | (go_at_call 31; (with_reducible refine (enew_no HM.out HL.out NZ.out).mono ?_); rintro r w' ⟨rfl, rfl⟩)
        | (go_at_call 31; (with_reducible refine (enew_yes HM.out HL.out NT.out).mono ?_); rintro r w4 ⟨rfl, U4, O4⟩; have HE := Lib.hid (HK.out _ _ _ _ _ HM.out (Nat.le_refl _) U4 O4); clear O4)
        | (go_at_call 20; (with_reducible refine (enNew_no HE.out NB2.out).mono ?_); rintro r w' ⟨rfl, rfl⟩)
        | (go_at_call 25; (with_reducible refine (leNew_no HE.out NB2.out).mono ?_); rintro r w' ⟨rfl, rfl⟩)
        | (go_at_call 15; (with_reducible refine (pinned_no HE.out NB2.out).mono ?_); rintro r w' ⟨rfl, rfl⟩)
        | (go_at_call 17; (with_reducible refine (count_to HE.out.mem (zero_c 12)).mono ?_); rintro r w' ⟨rfl, rfl⟩))
      go_ret
      exact ⟨rfl, (UA.trans U1).trans U4⟩
    · go_enter Try.func7, Try.ntmps7
      go_wp2_with (first
        | (go_at_call 8; refine (first_any _).mono ?_; rintro r wA ⟨rfl, UA⟩)
        | (go_at_call 30; refine (HN.out _).mono ?_; rintro r w1 ⟨rfl, M1, U1⟩; have HM := Lib.hid M1; clear M1)
        | (go_at_call 12; (with_reducible refine (number_is HX.out (by decide) (by decide) _).mono ?_); rintro r w' ⟨rfl, rfl⟩)
        | (go_at_call 12; (with_reducible refine (number_is HY.out (by decide) (by decide) _).mono ?_); rintro r w' ⟨rfl, rfl⟩)
        | (go_at_call 12; (with_reducible refine (number_is HZ.out (by decide) (by decide) _).mono ?_); rintro r w' ⟨rfl, rfl⟩)
        | (go_at_call 12; (with_reducible refine (number_is HV.out (by decide) (by decide) _).mono ?_); rintro r w' ⟨rfl, rfl⟩)
        | (go_at_call 31; (with_reducible refine (enew_no HM.out HL.out NG.out).mono ?_); rintro r w3 ⟨rfl, rfl⟩)
        | (go_at_call 31; (with_reducible refine (enew_no HM.out HL.out NY.out).mono ?_); rintro r w' ⟨rfl, rfl⟩)
        | (go_at_call 31; (with_reducible refine (enew_no HM.out HL.out NZ.out).mono ?_); rintro r w' ⟨rfl, rfl⟩)
        | (go_at_call 31; (with_reducible refine (enew_yes HM.out HL.out NT.out).mono ?_); rintro r w4 ⟨rfl, U4, O4⟩; have HE := Lib.hid (HK.out _ _ _ _ _ HM.out (Nat.le_refl _) U4 O4); clear O4)
        | (go_at_call 20; (with_reducible refine (enNew_no HE.out NB1.out).mono ?_); rintro r w' ⟨rfl, rfl⟩)
        | (go_at_call 25; (with_reducible refine (leNew_no HE.out NB1.out).mono ?_); rintro r w' ⟨rfl, rfl⟩)
        | (go_at_call 15; (with_reducible refine (pinned_no HE.out NB1.out).mono ?_); rintro r w' ⟨rfl, rfl⟩)
        | (go_at_call 17; (with_reducible refine (count_to HE.out.mem (zero_c 12)).mono ?_); rintro r w' ⟨rfl, rfl⟩))
      go_ret
      exact ⟨rfl, (UA.trans U1).trans U4⟩
  · have NG := Lib.hid (show ¬ epoB (St.zero 12) a0 a1 (1 + (k : Int)) from fun h => by
      obtain ⟨_, _, ⟨q0, q1⟩, ⟨q2, q3⟩, ⟨q4, q5⟩, q6⟩ := h
      have hl : (St.zero 12).xs.length = 12 := by simp [St.zero]
      rw [hl] at q1 q3 q5
      omega)
    rcases wayv with rfl | rfl
    · go_enter Try.func7, Try.ntmps7
      go_wp2_with (first
        | (go_at_call 8; refine (first_any _).mono ?_; rintro r wA ⟨rfl, UA⟩)
        | (go_at_call 30; refine (HN.out _).mono ?_; rintro r w1 ⟨rfl, M1, U1⟩; have HM := Lib.hid M1; clear M1)
        | (go_at_call 12; (with_reducible refine (number_is HX.out (by decide) (by decide) _).mono ?_); rintro r w' ⟨rfl, rfl⟩)
        | (go_at_call 12; (with_reducible refine (number_is HY.out (by decide) (by decide) _).mono ?_); rintro r w' ⟨rfl, rfl⟩)
        | (go_at_call 12; (with_reducible refine (number_is HZ.out (by decide) (by decide) _).mono ?_); rintro r w' ⟨rfl, rfl⟩)
        | (go_at_call 12; (with_reducible refine (number_is HV.out (by decide) (by decide) _).mono ?_); rintro r w' ⟨rfl, rfl⟩)
        | (go_at_call 31; (with_reducible refine (enew_no HM.out HL.out NG.out).mono ?_); rintro r w3 ⟨rfl, rfl⟩)
        | (go_at_call 31; (with_reducible refine (enew_no HM.out HL.out NY.out).mono ?_); rintro r w' ⟨rfl, rfl⟩)
        | (go_at_call 31; (with_reducible refine (enew_no HM.out HL.out NZ.out).mono ?_); rintro r w' ⟨rfl, rfl⟩)
        | (go_at_call 31; (with_reducible refine (enew_yes HM.out HL.out NT.out).mono ?_); rintro r w4 ⟨rfl, U4, O4⟩; have HE := Lib.hid (HK.out _ _ _ _ _ HM.out (Nat.le_refl _) U4 O4); clear O4)
        | (go_at_call 20; (with_reducible refine (enNew_no HE.out NB2.out).mono ?_); rintro r w' ⟨rfl, rfl⟩)
        | (go_at_call 25; (with_reducible refine (leNew_no HE.out NB2.out).mono ?_); rintro r w' ⟨rfl, rfl⟩)
        | (go_at_call 15; (with_reducible refine (pinned_no HE.out NB2.out).mono ?_); rintro r w' ⟨rfl, rfl⟩)
        | (go_at_call 17; (with_reducible refine (count_to HE.out.mem (zero_c 12)).mono ?_); rintro r w' ⟨rfl, rfl⟩))
      go_ret
      exact ⟨rfl, (UA.trans U1).trans U4⟩
    · go_enter Try.func7, Try.ntmps7
      go_wp2_with (first
        | (go_at_call 8; refine (first_any _).mono ?_; rintro r wA ⟨rfl, UA⟩)
        | (go_at_call 30; refine (HN.out _).mono ?_; rintro r w1 ⟨rfl, M1, U1⟩; have HM := Lib.hid M1; clear M1)
        | (go_at_call 12; (with_reducible refine (number_is HX.out (by decide) (by decide) _).mono ?_); rintro r w' ⟨rfl, rfl⟩)
        | (go_at_call 12; (with_reducible refine (number_is HY.out (by decide) (by decide) _).mono ?_); rintro r w' ⟨rfl, rfl⟩)
        | (go_at_call 12; (with_reducible refine (number_is HZ.out (by decide) (by decide) _).mono ?_); rintro r w' ⟨rfl, rfl⟩)
        | (go_at_call 12; (with_reducible refine (number_is HV.out (by decide) (by decide) _).mono ?_); rintro r w' ⟨rfl, rfl⟩)
        | (go_at_call 31; (with_reducible refine (enew_no HM.out HL.out NG.out).mono ?_); rintro r w3 ⟨rfl, rfl⟩)
        | (go_at_call 31; (with_reducible refine (enew_no HM.out HL.out NY.out).mono ?_); rintro r w' ⟨rfl, rfl⟩)
        | (go_at_call 31; (with_reducible refine (enew_no HM.out HL.out NZ.out).mono ?_); rintro r w' ⟨rfl, rfl⟩)
        | (go_at_call 31; (with_reducible refine (enew_yes HM.out HL.out NT.out).mono ?_); rintro r w4 ⟨rfl, U4, O4⟩; have HE := Lib.hid (HK.out _ _ _ _ _ HM.out (Nat.le_refl _) U4 O4); clear O4)
        | (go_at_call 20; (with_reducible refine (enNew_no HE.out NB1.out).mono ?_); rintro r w' ⟨rfl, rfl⟩)
        | (go_at_call 25; (with_reducible refine (leNew_no HE.out NB1.out).mono ?_); rintro r w' ⟨rfl, rfl⟩)
        | (go_at_call 15; (with_reducible refine (pinned_no HE.out NB1.out).mono ?_); rintro r w' ⟨rfl, rfl⟩)
        | (go_at_call 17; (with_reducible refine (count_to HE.out.mem (zero_c 12)).mono ?_); rintro r w' ⟨rfl, rfl⟩))
      go_ret
      exact ⟨rfl, (UA.trans U1).trans U4⟩
  · have NG := Lib.hid (show epoB (St.zero 12) a0 a1 (1 + (k : Int)) by
      have hl : (St.zero 12).xs.length = 12 := by simp [St.zero]
      refine ⟨by omega, by omega, ⟨by omega, by rw [hl]; omega⟩, ⟨by omega, by rw [hl]; omega⟩, ⟨by omega, by rw [hl]; omega⟩, by omega⟩)
    rcases wayv with rfl | rfl
    · go_enter Try.func7, Try.ntmps7
      go_wp2_with (first
        | (go_at_call 8; refine (first_any _).mono ?_; rintro r wA ⟨rfl, UA⟩)
        | (go_at_call 30; refine (HN.out _).mono ?_; rintro r w1 ⟨rfl, M1, U1⟩; have HM := Lib.hid M1; clear M1)
        | (go_at_call 12; (with_reducible refine (number_is HX.out (by decide) (by decide) _).mono ?_); rintro r w' ⟨rfl, rfl⟩)
        | (go_at_call 12; (with_reducible refine (number_is HY.out (by decide) (by decide) _).mono ?_); rintro r w' ⟨rfl, rfl⟩)
        | (go_at_call 12; (with_reducible refine (number_is HZ.out (by decide) (by decide) _).mono ?_); rintro r w' ⟨rfl, rfl⟩)
        | (go_at_call 12; (with_reducible refine (number_is HV.out (by decide) (by decide) _).mono ?_); rintro r w' ⟨rfl, rfl⟩)
        | (go_at_call 31; (with_reducible refine (enew_yes HM.out HL.out NG.out).mono ?_); rintro r w3 ⟨rfl, U3, -⟩; have HM3 := Lib.hid (HM.out.up U3))
        | (go_at_call 31; (with_reducible refine (enew_no HM3.out HL.out NY.out).mono ?_); rintro r w' ⟨rfl, rfl⟩)
        | (go_at_call 31; (with_reducible refine (enew_no HM3.out HL.out NZ.out).mono ?_); rintro r w' ⟨rfl, rfl⟩)
        | (go_at_call 31; (with_reducible refine (enew_yes HM3.out HL.out NT.out).mono ?_); rintro r w4 ⟨rfl, U4, O4⟩; have HE := Lib.hid (HK.out _ _ _ _ _ HM3.out (Nat.le_refl _) U4 O4); clear O4)
        | (go_at_call 20; (with_reducible refine (enNew_no HE.out NB2.out).mono ?_); rintro r w' ⟨rfl, rfl⟩)
        | (go_at_call 25; (with_reducible refine (leNew_no HE.out NB2.out).mono ?_); rintro r w' ⟨rfl, rfl⟩)
        | (go_at_call 15; (with_reducible refine (pinned_no HE.out NB2.out).mono ?_); rintro r w' ⟨rfl, rfl⟩)
        | (go_at_call 17; (with_reducible refine (count_to HE.out.mem (zero_c 12)).mono ?_); rintro r w' ⟨rfl, rfl⟩))
      go_ret
      exact ⟨rfl, ((UA.trans U1).trans U3).trans U4⟩
    · go_enter Try.func7, Try.ntmps7
      go_wp2_with (first
        | (go_at_call 8; refine (first_any _).mono ?_; rintro r wA ⟨rfl, UA⟩)
        | (go_at_call 30; refine (HN.out _).mono ?_; rintro r w1 ⟨rfl, M1, U1⟩; have HM := Lib.hid M1; clear M1)
        | (go_at_call 12; (with_reducible refine (number_is HX.out (by decide) (by decide) _).mono ?_); rintro r w' ⟨rfl, rfl⟩)
        | (go_at_call 12; (with_reducible refine (number_is HY.out (by decide) (by decide) _).mono ?_); rintro r w' ⟨rfl, rfl⟩)
        | (go_at_call 12; (with_reducible refine (number_is HZ.out (by decide) (by decide) _).mono ?_); rintro r w' ⟨rfl, rfl⟩)
        | (go_at_call 12; (with_reducible refine (number_is HV.out (by decide) (by decide) _).mono ?_); rintro r w' ⟨rfl, rfl⟩)
        | (go_at_call 31; (with_reducible refine (enew_yes HM.out HL.out NG.out).mono ?_); rintro r w3 ⟨rfl, U3, -⟩; have HM3 := Lib.hid (HM.out.up U3))
        | (go_at_call 31; (with_reducible refine (enew_no HM3.out HL.out NY.out).mono ?_); rintro r w' ⟨rfl, rfl⟩)
        | (go_at_call 31; (with_reducible refine (enew_no HM3.out HL.out NZ.out).mono ?_); rintro r w' ⟨rfl, rfl⟩)
        | (go_at_call 31; (with_reducible refine (enew_yes HM3.out HL.out NT.out).mono ?_); rintro r w4 ⟨rfl, U4, O4⟩; have HE := Lib.hid (HK.out _ _ _ _ _ HM3.out (Nat.le_refl _) U4 O4); clear O4)
        | (go_at_call 20; (with_reducible refine (enNew_no HE.out NB1.out).mono ?_); rintro r w' ⟨rfl, rfl⟩)
        | (go_at_call 25; (with_reducible refine (leNew_no HE.out NB1.out).mono ?_); rintro r w' ⟨rfl, rfl⟩)
        | (go_at_call 15; (with_reducible refine (pinned_no HE.out NB1.out).mono ?_); rintro r w' ⟨rfl, rfl⟩)
        | (go_at_call 17; (with_reducible refine (count_to HE.out.mem (zero_c 12)).mono ?_); rintro r w' ⟨rfl, rfl⟩))
      go_ret
      exact ⟨rfl, ((UA.trans U1).trans U3).trans U4⟩
  · have NG := Lib.hid (show epoB (St.zero 12) a0 a1 (1 + (k : Int)) by
      have hl : (St.zero 12).xs.length = 12 := by simp [St.zero]
      refine ⟨by omega, by omega, ⟨by omega, by rw [hl]; omega⟩, ⟨by omega, by rw [hl]; omega⟩, ⟨by omega, by rw [hl]; omega⟩, by omega⟩)
    rcases wayv with rfl | rfl
    · go_enter Try.func7, Try.ntmps7
      go_wp2_with (first
        | (go_at_call 8; refine (first_any _).mono ?_; rintro r wA ⟨rfl, UA⟩)
        | (go_at_call 30; refine (HN.out _).mono ?_; rintro r w1 ⟨rfl, M1, U1⟩; have HM := Lib.hid M1; clear M1)
        | (go_at_call 12; (with_reducible refine (number_is HX.out (by decide) (by decide) _).mono ?_); rintro r w' ⟨rfl, rfl⟩)
        | (go_at_call 12; (with_reducible refine (number_is HY.out (by decide) (by decide) _).mono ?_); rintro r w' ⟨rfl, rfl⟩)
        | (go_at_call 12; (with_reducible refine (number_is HZ.out (by decide) (by decide) _).mono ?_); rintro r w' ⟨rfl, rfl⟩)
        | (go_at_call 12; (with_reducible refine (number_is HV.out (by decide) (by decide) _).mono ?_); rintro r w' ⟨rfl, rfl⟩)
        | (go_at_call 31; (with_reducible refine (enew_yes HM.out HL.out NG.out).mono ?_); rintro r w3 ⟨rfl, U3, -⟩; have HM3 := Lib.hid (HM.out.up U3))
        | (go_at_call 31; (with_reducible refine (enew_no HM3.out HL.out NY.out).mono ?_); rintro r w' ⟨rfl, rfl⟩)
        | (go_at_call 31; (with_reducible refine (enew_no HM3.out HL.out NZ.out).mono ?_); rintro r w' ⟨rfl, rfl⟩)
        | (go_at_call 31; (with_reducible refine (enew_yes HM3.out HL.out NT.out).mono ?_); rintro r w4 ⟨rfl, U4, O4⟩; have HE := Lib.hid (HK.out _ _ _ _ _ HM3.out (Nat.le_refl _) U4 O4); clear O4)
        | (go_at_call 20; (with_reducible refine (enNew_no HE.out NB2.out).mono ?_); rintro r w' ⟨rfl, rfl⟩)
        | (go_at_call 25; (with_reducible refine (leNew_no HE.out NB2.out).mono ?_); rintro r w' ⟨rfl, rfl⟩)
        | (go_at_call 15; (with_reducible refine (pinned_no HE.out NB2.out).mono ?_); rintro r w' ⟨rfl, rfl⟩)
        | (go_at_call 17; (with_reducible refine (count_to HE.out.mem (zero_c 12)).mono ?_); rintro r w' ⟨rfl, rfl⟩))
      go_ret
      exact ⟨rfl, ((UA.trans U1).trans U3).trans U4⟩
    · go_enter Try.func7, Try.ntmps7
      go_wp2_with (first
        | (go_at_call 8; refine (first_any _).mono ?_; rintro r wA ⟨rfl, UA⟩)
        | (go_at_call 30; refine (HN.out _).mono ?_; rintro r w1 ⟨rfl, M1, U1⟩; have HM := Lib.hid M1; clear M1)
        | (go_at_call 12; (with_reducible refine (number_is HX.out (by decide) (by decide) _).mono ?_); rintro r w' ⟨rfl, rfl⟩)
        | (go_at_call 12; (with_reducible refine (number_is HY.out (by decide) (by decide) _).mono ?_); rintro r w' ⟨rfl, rfl⟩)
        | (go_at_call 12; (with_reducible refine (number_is HZ.out (by decide) (by decide) _).mono ?_); rintro r w' ⟨rfl, rfl⟩)
        | (go_at_call 12; (with_reducible refine (number_is HV.out (by decide) (by decide) _).mono ?_); rintro r w' ⟨rfl, rfl⟩)
        | (go_at_call 31; (with_reducible refine (enew_yes HM.out HL.out NG.out).mono ?_); rintro r w3 ⟨rfl, U3, -⟩; have HM3 := Lib.hid (HM.out.up U3))
        | (go_at_call 31; (with_reducible refine (enew_no HM3.out HL.out NY.out).mono ?_); rintro r w' ⟨rfl, rfl⟩)
        | (go_at_call 31; (with_reducible refine (enew_no HM3.out HL.out NZ.out).mono ?_); rintro r w' ⟨rfl, rfl⟩)
        | (go_at_call 31; (with_reducible refine (enew_yes HM3.out HL.out NT.out).mono ?_); rintro r w4 ⟨rfl, U4, O4⟩; have HE := Lib.hid (HK.out _ _ _ _ _ HM3.out (Nat.le_refl _) U4 O4); clear O4)
        | (go_at_call 20; (with_reducible refine (enNew_no HE.out NB1.out).mono ?_); rintro r w' ⟨rfl, rfl⟩)
        | (go_at_call 25; (with_reducible refine (leNew_no HE.out NB1.out).mono ?_); rintro r w' ⟨rfl, rfl⟩)
        | (go_at_call 15; (with_reducible refine (pinned_no HE.out NB1.out).mono ?_); rintro r w' ⟨rfl, rfl⟩)
        | (go_at_call 17; (with_reducible refine (count_to HE.out.mem (zero_c 12)).mono ?_); rintro r w' ⟨rfl, rfl⟩))
      go_ret
      exact ⟨rfl, ((UA.trans U1).trans U3).trans U4⟩
  · have NG := Lib.hid (show ¬ epoB (St.zero 12) a0 a1 (1 + (k : Int)) from fun h => by
      obtain ⟨_, _, ⟨q0, q1⟩, ⟨q2, q3⟩, ⟨q4, q5⟩, q6⟩ := h
      have hl : (St.zero 12).xs.length = 12 := by simp [St.zero]
      rw [hl] at q1 q3 q5
      omega)
    rcases wayv with rfl | rfl
    · go_enter Try.func7, Try.ntmps7
      go_wp2_with (first
        | (go_at_call 8; refine (first_any _).mono ?_; rintro r wA ⟨rfl, UA⟩)
        | (go_at_call 30; refine (HN.out _).mono ?_; rintro r w1 ⟨rfl, M1, U1⟩; have HM := Lib.hid M1; clear M1)
        | (go_at_call 12; (with_reducible refine (number_is HX.out (by decide) (by decide) _).mono ?_); rintro r w' ⟨rfl, rfl⟩)
        | (go_at_call 12; (with_reducible refine (number_is HY.out (by decide) (by decide) _).mono ?_); rintro r w' ⟨rfl, rfl⟩)
        | (go_at_call 12; (with_reducible refine (number_is HZ.out (by decide) (by decide) _).mono ?_); rintro r w' ⟨rfl, rfl⟩)
        | (go_at_call 12; (with_reducible refine (number_is HV.out (by decide) (by decide) _).mono ?_); rintro r w' ⟨rfl, rfl⟩)
        | (go_at_call 31; (with_reducible refine (enew_no HM.out HL.out NG.out).mono ?_); rintro r w3 ⟨rfl, rfl⟩)
        | (go_at_call 31; (with_reducible refine (enew_no HM.out HL.out NY.out).mono ?_); rintro r w' ⟨rfl, rfl⟩)
        | (go_at_call 31; (with_reducible refine (enew_no HM.out HL.out NZ.out).mono ?_); rintro r w' ⟨rfl, rfl⟩)
        | (go_at_call 31; (with_reducible refine (enew_yes HM.out HL.out NT.out).mono ?_); rintro r w4 ⟨rfl, U4, O4⟩; have HE := Lib.hid (HK.out _ _ _ _ _ HM.out (Nat.le_refl _) U4 O4); clear O4)
        | (go_at_call 20; (with_reducible refine (enNew_no HE.out NB2.out).mono ?_); rintro r w' ⟨rfl, rfl⟩)
        | (go_at_call 25; (with_reducible refine (leNew_no HE.out NB2.out).mono ?_); rintro r w' ⟨rfl, rfl⟩)
        | (go_at_call 15; (with_reducible refine (pinned_no HE.out NB2.out).mono ?_); rintro r w' ⟨rfl, rfl⟩)
        | (go_at_call 17; (with_reducible refine (count_to HE.out.mem (zero_c 12)).mono ?_); rintro r w' ⟨rfl, rfl⟩))
      go_ret
      exact ⟨rfl, (UA.trans U1).trans U4⟩
    · go_enter Try.func7, Try.ntmps7
      go_wp2_with (first
        | (go_at_call 8; refine (first_any _).mono ?_; rintro r wA ⟨rfl, UA⟩)
        | (go_at_call 30; refine (HN.out _).mono ?_; rintro r w1 ⟨rfl, M1, U1⟩; have HM := Lib.hid M1; clear M1)
        | (go_at_call 12; (with_reducible refine (number_is HX.out (by decide) (by decide) _).mono ?_); rintro r w' ⟨rfl, rfl⟩)
        | (go_at_call 12; (with_reducible refine (number_is HY.out (by decide) (by decide) _).mono ?_); rintro r w' ⟨rfl, rfl⟩)
        | (go_at_call 12; (with_reducible refine (number_is HZ.out (by decide) (by decide) _).mono ?_); rintro r w' ⟨rfl, rfl⟩)
        | (go_at_call 12; (with_reducible refine (number_is HV.out (by decide) (by decide) _).mono ?_); rintro r w' ⟨rfl, rfl⟩)
        | (go_at_call 31; (with_reducible refine (enew_no HM.out HL.out NG.out).mono ?_); rintro r w3 ⟨rfl, rfl⟩)
        | (go_at_call 31; (with_reducible refine (enew_no HM.out HL.out NY.out).mono ?_); rintro r w' ⟨rfl, rfl⟩)
        | (go_at_call 31; (with_reducible refine (enew_no HM.out HL.out NZ.out).mono ?_); rintro r w' ⟨rfl, rfl⟩)
        | (go_at_call 31; (with_reducible refine (enew_yes HM.out HL.out NT.out).mono ?_); rintro r w4 ⟨rfl, U4, O4⟩; have HE := Lib.hid (HK.out _ _ _ _ _ HM.out (Nat.le_refl _) U4 O4); clear O4)
        | (go_at_call 20; (with_reducible refine (enNew_no HE.out NB1.out).mono ?_); rintro r w' ⟨rfl, rfl⟩)
        | (go_at_call 25; (with_reducible refine (leNew_no HE.out NB1.out).mono ?_); rintro r w' ⟨rfl, rfl⟩)
        | (go_at_call 15; (with_reducible refine (pinned_no HE.out NB1.out).mono ?_); rintro r w' ⟨rfl, rfl⟩)
        | (go_at_call 17; (with_reducible refine (count_to HE.out.mem (zero_c 12)).mono ?_); rintro r w' ⟨rfl, rfl⟩))
      go_ret
      exact ⟨rfl, (UA.trans U1).trans U4⟩

set_option maxRecDepth 100000 in
theorem lifted (os : Os) (started : os.Started) (H : Type) (enc : TypeId × Value → H) :
    ReturnsInHanded {} Try.checked os 7 .any (Rows.epochNoneSpec.pre6 enc Try.prog Try.f7 Rows.epochNoneRow.domain false) (Rows.epochNoneSpec.post enc Try.prog Try.f7 false true false false) := by
  refine returnsInHanded_of_change (C := Try.checked) own started (by kernel_rfl) Try.func7
    (ChangeSpec.witness6 (enc := enc) (C := Try.checked) false ⟨#[], #[.int .i64 0, .int .i64 0, .int .i64 0, .int .i64 0], []⟩ 8 (by kernel_rfl) (by kernel_rfl) (by kernel_rfl) (by kernel_rfl)) ?_
  intro W base args ds gs before hval0 hW hcnd _
  have hval : ∀ (j : Nat) t v, Try.f7.params[j]? = some t → args[j]? = some v → Value.okWide Try.prog W .any base t v := hval0
  have hW' := hW
  obtain ⟨p, q, hA0, hV, rfl, hfz, hnd⟩ := hW
  have hA : DataW.TrodAll enc Try.prog W 0 (fun _ => true) true Try.f7.params.toList args.toList ds p := hA0
  rw [Try.params7] at hA hval
  obtain ⟨v0, vs0, d0, ds0, p0, q0, hargs, rfl, rfl, h0, r0⟩ := trodAll_cons hA
  obtain ⟨v1, vs1, d1, ds1, p1, q1, rfl, rfl, rfl, h1, r1⟩ := trodAll_cons r0
  obtain ⟨v2, vs2, d2, ds2, p2, q2, rfl, rfl, rfl, h2, r2⟩ := trodAll_cons r1
  obtain ⟨v3, vs3, d3, ds3, p3, q3, rfl, rfl, rfl, h3, r3⟩ := trodAll_cons r2
  obtain ⟨rfl, rfl, rfl⟩ := trodAll_nil r3
  obtain rfl : args = #[v0, v1, v2, v3] := by cases args; simp_all
  obtain ⟨rfl, rfl⟩ := trodVars_none hV
  have k0 := h0
  have lt0 : ∀ x ∈ p0, x.block < W.heap.size := by obtain ⟨m, hm⟩ := k0; exact DataW.trod_lt m _ _ _ hm
  obtain ⟨a0, rfl, rfl, rfl, w0⟩ := open_int Try.underlying3 (hval 0 3 v0 rfl rfl) h0
  have k1 := h1
  have lt1 : ∀ x ∈ p1, x.block < W.heap.size := by obtain ⟨m, hm⟩ := k1; exact DataW.trod_lt m _ _ _ hm
  obtain ⟨a1, rfl, rfl, rfl, w1⟩ := open_int Try.underlying3 (hval 1 3 v1 rfl rfl) h1
  have k2 := h2
  have lt2 : ∀ x ∈ p2, x.block < W.heap.size := by obtain ⟨m, hm⟩ := k2; exact DataW.trod_lt m _ _ _ hm
  obtain ⟨a2, rfl, rfl, rfl, w2⟩ := open_int Try.underlying3 (hval 2 3 v2 rfl rfl) h2
  have k3 := h3
  have lt3 : ∀ x ∈ p3, x.block < W.heap.size := by obtain ⟨m, hm⟩ := k3; exact DataW.trod_lt m _ _ _ hm
  obtain ⟨a3, rfl, rfl, rfl, w3⟩ := open_int Try.underlying3 (hval 3 3 v3 rfl rfl) h3
  clear hA0 hval0
  refine (walk a0 a1 a2 a3 W w0 w1 w2 w3).mono fun e W' ⟨he, bel⟩ => ?_
  subst he
  exact ⟨_, rfl, _, _, _, [], _, [], hW', trodAll_mk1 (shut_bool Try.underlying4 _), (trodAll_cons_mk (Below.trod laidOut (by kernel_rfl) (of_decide_eq_true (by kernel_rfl)) k0 bel lt0) (trodAll_cons_mk (Below.trod laidOut (by kernel_rfl) (of_decide_eq_true (by kernel_rfl)) k1 bel lt1) (trodAll_cons_mk (Below.trod laidOut (by kernel_rfl) (of_decide_eq_true (by kernel_rfl)) k2 bel lt2) (trodAll_cons_mk (Below.trod laidOut (by kernel_rfl) (of_decide_eq_true (by kernel_rfl)) k3 bel lt3) trodAll_mk0)))), rfl, Below.frame bel _, fun h => by cases h⟩

theorem over : Rows.epochNoneRow.holds Try.pinned (OpenSpec.ofChange Rows.epochNoneSpec) :=
  OpenClaim.holds_of_wide 7 Try.f7 rfl rfl rfl rfl rfl rfl rfl ⟨rfl, rfl, rfl, rfl, rfl⟩ rfl rfl rfl rfl rfl (by kernel_rfl) Try.func7 (by kernel_rfl)
    (of_decide_eq_true (by kernel_rfl)) (by unfold Func.isWrapper; first | (rw [if_pos (by decide +kernel)]; kernel_rfl) | (rw [if_neg (by decide +kernel)]; exact ⟨rfl, rfl⟩))
    (fun os started H enc _ => lifted os started H enc)

/-- THE STATEMENT -/
theorem proved : Rows.EpochNoneSaid := over
#print axioms proved
end Go.Proofs.Ytngaokhlcdlpfaa.epochNone
