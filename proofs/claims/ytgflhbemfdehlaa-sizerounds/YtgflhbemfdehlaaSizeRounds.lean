/-
  Proved: what Round answers is no less than asked, less than asked and a step, a multiple of the step, the same when rounded again, no less for a greater class or more words, and nought out of bounds ('Rows.SizeRoundsSaid'). Conditions: none but those of the statement itself.
-/
import Derived.Test.YtgflhbemfdehlaaRows
import Derived.Test.YtgflhbemfdehlaaSizeLaws
import Derived.WalkKit
import Derived.ProofKit
import Derived.OpenShut
import Derived.ShutString
import Derived.ChangeOld
import Derived.Below
import Derived.Carry
import Derived.Lib.SmallJoins
namespace Go.Proofs.Ytgflhbemfdehlaa.sizeRounds
open Go.ChangeShapes Go.WideShapes Go.ChangeAt Go.RowKit Go.Joins Go.Proofs.Ytgflhbemfdehlaa W64
open Go.ChangeMaps (open_string shut_string)
set_option linter.unusedVariables false

theorem own : ownKnob Try.prog.godebug = none := by kernel_rfl
theorem laidOut : laidOutB Try.prog = true := by kernel_rfl

/-- All that the statement asks of one class and one request. -/
theorem facts {c m s : Int} (c0 : 0 ≤ c) (c3 : c ≤ 3) (hs : stepN c = s) (m0 : 0 ≤ m) (m1 : m < 1016) :
    ∃ r r1 r2 r3 : Int, roundN c (1 + m) = r ∧ roundN (c + 1) (1 + m) = r1 ∧ roundN c (1 + m + 1) = r2 ∧ roundN 3 (1 + m) = r3 ∧ roundN (3 + c) (1 + m) = r3 ∧ roundN c r = r ∧
      roundN 0 (1 + m) = 1 + m ∧ roundN (-c) (1 + m) = 1 + m ∧ roundN c (1 - (1 + m)) = 0 ∧ roundN c (1024 + (1 + m)) = 0 ∧
      1 + m ≤ r ∧ r < 1 + m + s ∧ r % s = 0 ∧ r ≤ r1 ∧ r ≤ r2 ∧ r ≤ 1031 ∧ r1 ≤ 1031 ∧ r2 ≤ 1031 := by
  refine ⟨_, _, _, _, rfl, rfl, rfl, rfl, ?_⟩
  have e3 : stepN 3 = 8 := rfl
  have e0 : stepN 0 = 1 := rfl
  have a0 : stepN (3 + c) = 8 := by rcases stepN_cases (3 + c) with ⟨_, e⟩ | ⟨_, e⟩ | ⟨_, e⟩ | ⟨_, e⟩ <;> omega
  have a1 : stepN (-c) = 1 := by rcases stepN_cases (-c) with ⟨_, e⟩ | ⟨_, e⟩ | ⟨_, e⟩ | ⟨_, e⟩ <;> omega
  have hr : 1 ≤ roundN c (1 + m) ∧ roundN c (1 + m) ≤ 1024 := by
    rw [roundN_in (by omega) (by omega)]
    rcases stepN_cases c with ⟨_, e⟩ | ⟨_, e⟩ | ⟨_, e⟩ | ⟨_, e⟩ <;> rw [e] <;> omega
  refine ⟨?_, ?_, ?_, ?_, roundN_out (by omega), roundN_out (by omega), ?_⟩
  · rw [roundN_in (by omega) (by omega), roundN_in (by omega) (by omega), a0, e3]
  · rw [roundN_in (c := c) hr.1 hr.2, roundN_in (by omega) (by omega)]
    rcases stepN_cases c with ⟨_, e⟩ | ⟨_, e⟩ | ⟨_, e⟩ | ⟨_, e⟩ <;> rw [e] <;> omega
  · rw [roundN_in (by omega) (by omega), e0]; omega
  · rw [roundN_in (by omega) (by omega), a1]; omega
  · rw [roundN_in (by omega) (by omega), roundN_in (by omega) (by omega), roundN_in (by omega) (by omega), ← hs]
    rcases stepN_cases c with ⟨_, e⟩ | ⟨_, e⟩ | ⟨_, e⟩ | ⟨_, e⟩ <;> rcases stepN_cases (c + 1) with ⟨_, f⟩ | ⟨_, f⟩ | ⟨_, f⟩ | ⟨_, f⟩ <;> rw [e, f] <;> omega

set_option maxHeartbeats 2000000 in
theorem walk (a0 : Int) (a1 : Int) (w : World) (w0 : (Lit.int .i64 a0).wf = true) (w1 : (Lit.int .i64 a1).wf = true) :
    Calls Try.prog 4 #[.int .i64 a0, .int .i64 a1] w fun e w' => e = .returned (.bool true) ∧ Up w w' := by
  clear w0 w1
  obtain ⟨m, hm⟩ : ∃ m, a1 % 1016 = m := ⟨_, rfl⟩
  have m0 : 0 ≤ m := by omega
  have m1 : m < 1016 := by omega
  have HM := Lib.hid hm
  clear hm
  rcases (show a0 % 4 = 0 ∨ a0 % 4 = 1 ∨ a0 % 4 = 2 ∨ a0 % 4 = 3 by omega) with hc | hc | hc | hc
  all_goals
    have HC := Lib.hid hc
    clear hc
  · obtain ⟨r, r1, r2, r3, e1, e2, e3, e4, e5, e6, e7, e8, e9, e10, f1, f2, f3, f4, f5, f6, f7, f8⟩ := facts (c := 0) (m := m) (s := 1) (by decide) (by decide) rfl m0 m1
    replace e1 : RowKit.Hid (roundN 0 (1 + m) = r) := Lib.hid e1
    replace e2 : RowKit.Hid (roundN 1 (1 + m) = r1) := Lib.hid e2
    replace e3 : RowKit.Hid (roundN 0 (1 + m + 1) = r2) := Lib.hid e3
    replace e4 : RowKit.Hid (roundN 3 (1 + m) = r3) := Lib.hid e4
    replace e5 : RowKit.Hid (roundN 3 (1 + m) = r3) := Lib.hid e5
    replace e6 : RowKit.Hid (roundN 0 r = r) := Lib.hid e6
    replace e7 : RowKit.Hid (roundN 0 (1 + m) = 1 + m) := Lib.hid e7
    replace e8 : RowKit.Hid (roundN 0 (1 + m) = 1 + m) := Lib.hid e8
    replace e9 : RowKit.Hid (roundN 0 (1 - (1 + m)) = 0) := Lib.hid e9
    replace e10 : RowKit.Hid (roundN 0 (1024 + (1 + m)) = 0) := Lib.hid e10
    obtain rfl : r = 1 + m := e1.out.symm.trans e7.out
    go_enter Try.func4, Try.ntmps4
    go_wp2_with (first
      | (go_at_call 7; refine (first_any _).mono ?_; rintro e w1 ⟨rfl, u1⟩)
      | (go_at_call 16; (with_reducible refine (number_is HC.out (by decide) (by decide) _).mono ?_); rintro e w' ⟨rfl, rfl⟩)
      | (go_at_call 16; (with_reducible refine (number_is HM.out (by decide) (by decide) _).mono ?_); rintro e w' ⟨rfl, rfl⟩)
      | (go_at_call 8; (with_reducible refine (round_is e1.out _).mono ?_); rintro e w' ⟨rfl, rfl⟩)
      | (go_at_call 8; (with_reducible refine (round_is e6.out _).mono ?_); rintro e w' ⟨rfl, rfl⟩)
      | (go_at_call 8; (with_reducible refine (round_is e2.out _).mono ?_); rintro e w' ⟨rfl, rfl⟩)
      | (go_at_call 8; (with_reducible refine (round_is e3.out _).mono ?_); rintro e w' ⟨rfl, rfl⟩)
      | (go_at_call 8; (with_reducible refine (round_is e7.out _).mono ?_); rintro e w' ⟨rfl, rfl⟩)
      | (go_at_call 8; (with_reducible refine (round_is e8.out _).mono ?_); rintro e w' ⟨rfl, rfl⟩)
      | (go_at_call 8; (with_reducible refine (round_is e5.out _).mono ?_); rintro e w' ⟨rfl, rfl⟩)
      | (go_at_call 8; (with_reducible refine (round_is e4.out _).mono ?_); rintro e w' ⟨rfl, rfl⟩)
      | (go_at_call 8; (with_reducible refine (round_is e9.out _).mono ?_); rintro e w' ⟨rfl, rfl⟩)
      | (go_at_call 8; (with_reducible refine (round_is e10.out _).mono ?_); rintro e w' ⟨rfl, rfl⟩))
    go_ret
    exact ⟨rfl, u1⟩
  · obtain ⟨r, r1, r2, r3, e1, e2, e3, e4, e5, e6, e7, e8, e9, e10, f1, f2, f3, f4, f5, f6, f7, f8⟩ := facts (c := 1) (m := m) (s := 2) (by decide) (by decide) rfl m0 m1
    replace e1 : RowKit.Hid (roundN 1 (1 + m) = r) := Lib.hid e1
    replace e2 : RowKit.Hid (roundN 2 (1 + m) = r1) := Lib.hid e2
    replace e3 : RowKit.Hid (roundN 1 (1 + m + 1) = r2) := Lib.hid e3
    replace e4 : RowKit.Hid (roundN 3 (1 + m) = r3) := Lib.hid e4
    replace e5 : RowKit.Hid (roundN 4 (1 + m) = r3) := Lib.hid e5
    replace e6 : RowKit.Hid (roundN 1 r = r) := Lib.hid e6
    replace e7 : RowKit.Hid (roundN 0 (1 + m) = 1 + m) := Lib.hid e7
    replace e8 : RowKit.Hid (roundN (-1) (1 + m) = 1 + m) := Lib.hid e8
    replace e9 : RowKit.Hid (roundN 1 (1 - (1 + m)) = 0) := Lib.hid e9
    replace e10 : RowKit.Hid (roundN 1 (1024 + (1 + m)) = 0) := Lib.hid e10
    go_enter Try.func4, Try.ntmps4
    go_wp2_with (first
      | (go_at_call 7; refine (first_any _).mono ?_; rintro e w1 ⟨rfl, u1⟩)
      | (go_at_call 16; (with_reducible refine (number_is HC.out (by decide) (by decide) _).mono ?_); rintro e w' ⟨rfl, rfl⟩)
      | (go_at_call 16; (with_reducible refine (number_is HM.out (by decide) (by decide) _).mono ?_); rintro e w' ⟨rfl, rfl⟩)
      | (go_at_call 8; (with_reducible refine (round_is e1.out _).mono ?_); rintro e w' ⟨rfl, rfl⟩)
      | (go_at_call 8; (with_reducible refine (round_is e6.out _).mono ?_); rintro e w' ⟨rfl, rfl⟩)
      | (go_at_call 8; (with_reducible refine (round_is e2.out _).mono ?_); rintro e w' ⟨rfl, rfl⟩)
      | (go_at_call 8; (with_reducible refine (round_is e3.out _).mono ?_); rintro e w' ⟨rfl, rfl⟩)
      | (go_at_call 8; (with_reducible refine (round_is e7.out _).mono ?_); rintro e w' ⟨rfl, rfl⟩)
      | (go_at_call 8; (with_reducible refine (round_is e8.out _).mono ?_); rintro e w' ⟨rfl, rfl⟩)
      | (go_at_call 8; (with_reducible refine (round_is e5.out _).mono ?_); rintro e w' ⟨rfl, rfl⟩)
      | (go_at_call 8; (with_reducible refine (round_is e4.out _).mono ?_); rintro e w' ⟨rfl, rfl⟩)
      | (go_at_call 8; (with_reducible refine (round_is e9.out _).mono ?_); rintro e w' ⟨rfl, rfl⟩)
      | (go_at_call 8; (with_reducible refine (round_is e10.out _).mono ?_); rintro e w' ⟨rfl, rfl⟩))
    go_ret
    exact ⟨rfl, u1⟩
  · obtain ⟨r, r1, r2, r3, e1, e2, e3, e4, e5, e6, e7, e8, e9, e10, f1, f2, f3, f4, f5, f6, f7, f8⟩ := facts (c := 2) (m := m) (s := 4) (by decide) (by decide) rfl m0 m1
    replace e1 : RowKit.Hid (roundN 2 (1 + m) = r) := Lib.hid e1
    replace e2 : RowKit.Hid (roundN 3 (1 + m) = r1) := Lib.hid e2
    replace e3 : RowKit.Hid (roundN 2 (1 + m + 1) = r2) := Lib.hid e3
    replace e4 : RowKit.Hid (roundN 3 (1 + m) = r3) := Lib.hid e4
    replace e5 : RowKit.Hid (roundN 5 (1 + m) = r3) := Lib.hid e5
    replace e6 : RowKit.Hid (roundN 2 r = r) := Lib.hid e6
    replace e7 : RowKit.Hid (roundN 0 (1 + m) = 1 + m) := Lib.hid e7
    replace e8 : RowKit.Hid (roundN (-2) (1 + m) = 1 + m) := Lib.hid e8
    replace e9 : RowKit.Hid (roundN 2 (1 - (1 + m)) = 0) := Lib.hid e9
    replace e10 : RowKit.Hid (roundN 2 (1024 + (1 + m)) = 0) := Lib.hid e10
    obtain rfl : r3 = r1 := e4.out.symm.trans e2.out
    go_enter Try.func4, Try.ntmps4
    go_wp2_with (first
      | (go_at_call 7; refine (first_any _).mono ?_; rintro e w1 ⟨rfl, u1⟩)
      | (go_at_call 16; (with_reducible refine (number_is HC.out (by decide) (by decide) _).mono ?_); rintro e w' ⟨rfl, rfl⟩)
      | (go_at_call 16; (with_reducible refine (number_is HM.out (by decide) (by decide) _).mono ?_); rintro e w' ⟨rfl, rfl⟩)
      | (go_at_call 8; (with_reducible refine (round_is e1.out _).mono ?_); rintro e w' ⟨rfl, rfl⟩)
      | (go_at_call 8; (with_reducible refine (round_is e6.out _).mono ?_); rintro e w' ⟨rfl, rfl⟩)
      | (go_at_call 8; (with_reducible refine (round_is e2.out _).mono ?_); rintro e w' ⟨rfl, rfl⟩)
      | (go_at_call 8; (with_reducible refine (round_is e3.out _).mono ?_); rintro e w' ⟨rfl, rfl⟩)
      | (go_at_call 8; (with_reducible refine (round_is e7.out _).mono ?_); rintro e w' ⟨rfl, rfl⟩)
      | (go_at_call 8; (with_reducible refine (round_is e8.out _).mono ?_); rintro e w' ⟨rfl, rfl⟩)
      | (go_at_call 8; (with_reducible refine (round_is e5.out _).mono ?_); rintro e w' ⟨rfl, rfl⟩)
      | (go_at_call 8; (with_reducible refine (round_is e4.out _).mono ?_); rintro e w' ⟨rfl, rfl⟩)
      | (go_at_call 8; (with_reducible refine (round_is e9.out _).mono ?_); rintro e w' ⟨rfl, rfl⟩)
      | (go_at_call 8; (with_reducible refine (round_is e10.out _).mono ?_); rintro e w' ⟨rfl, rfl⟩))
    go_ret
    exact ⟨rfl, u1⟩
  · obtain ⟨r, r1, r2, r3, e1, e2, e3, e4, e5, e6, e7, e8, e9, e10, f1, f2, f3, f4, f5, f6, f7, f8⟩ := facts (c := 3) (m := m) (s := 8) (by decide) (by decide) rfl m0 m1
    replace e1 : RowKit.Hid (roundN 3 (1 + m) = r) := Lib.hid e1
    replace e2 : RowKit.Hid (roundN 4 (1 + m) = r1) := Lib.hid e2
    replace e3 : RowKit.Hid (roundN 3 (1 + m + 1) = r2) := Lib.hid e3
    replace e4 : RowKit.Hid (roundN 3 (1 + m) = r3) := Lib.hid e4
    replace e5 : RowKit.Hid (roundN 6 (1 + m) = r3) := Lib.hid e5
    replace e6 : RowKit.Hid (roundN 3 r = r) := Lib.hid e6
    replace e7 : RowKit.Hid (roundN 0 (1 + m) = 1 + m) := Lib.hid e7
    replace e8 : RowKit.Hid (roundN (-3) (1 + m) = 1 + m) := Lib.hid e8
    replace e9 : RowKit.Hid (roundN 3 (1 - (1 + m)) = 0) := Lib.hid e9
    replace e10 : RowKit.Hid (roundN 3 (1024 + (1 + m)) = 0) := Lib.hid e10
    obtain rfl : r3 = r := e4.out.symm.trans e1.out
    go_enter Try.func4, Try.ntmps4
    go_wp2_with (first
      | (go_at_call 7; refine (first_any _).mono ?_; rintro e w1 ⟨rfl, u1⟩)
      | (go_at_call 16; (with_reducible refine (number_is HC.out (by decide) (by decide) _).mono ?_); rintro e w' ⟨rfl, rfl⟩)
      | (go_at_call 16; (with_reducible refine (number_is HM.out (by decide) (by decide) _).mono ?_); rintro e w' ⟨rfl, rfl⟩)
      | (go_at_call 8; (with_reducible refine (round_is e1.out _).mono ?_); rintro e w' ⟨rfl, rfl⟩)
      | (go_at_call 8; (with_reducible refine (round_is e6.out _).mono ?_); rintro e w' ⟨rfl, rfl⟩)
      | (go_at_call 8; (with_reducible refine (round_is e2.out _).mono ?_); rintro e w' ⟨rfl, rfl⟩)
      | (go_at_call 8; (with_reducible refine (round_is e3.out _).mono ?_); rintro e w' ⟨rfl, rfl⟩)
      | (go_at_call 8; (with_reducible refine (round_is e7.out _).mono ?_); rintro e w' ⟨rfl, rfl⟩)
      | (go_at_call 8; (with_reducible refine (round_is e8.out _).mono ?_); rintro e w' ⟨rfl, rfl⟩)
      | (go_at_call 8; (with_reducible refine (round_is e5.out _).mono ?_); rintro e w' ⟨rfl, rfl⟩)
      | (go_at_call 8; (with_reducible refine (round_is e4.out _).mono ?_); rintro e w' ⟨rfl, rfl⟩)
      | (go_at_call 8; (with_reducible refine (round_is e9.out _).mono ?_); rintro e w' ⟨rfl, rfl⟩)
      | (go_at_call 8; (with_reducible refine (round_is e10.out _).mono ?_); rintro e w' ⟨rfl, rfl⟩))
    go_ret
    exact ⟨rfl, u1⟩

set_option maxRecDepth 100000 in
theorem lifted (os : Os) (started : os.Started) (H : Type) (enc : TypeId × Value → H) :
    ReturnsInHanded {} Try.checked os 4 .any (Rows.sizeRoundsSpec.pre6 enc Try.prog Try.f4 Rows.sizeRoundsRow.domain false) (Rows.sizeRoundsSpec.post enc Try.prog Try.f4 false true false false) := by
  refine returnsInHanded_of_change (C := Try.checked) own started (by kernel_rfl) Try.func4
    (ChangeSpec.witness6 (enc := enc) (C := Try.checked) false ⟨#[], #[.int .i64 0, .int .i64 0], []⟩ 8 (by kernel_rfl) (by kernel_rfl) (by kernel_rfl) (by kernel_rfl)) ?_
  intro W base args ds gs before hval0 hW hcnd _
  have hval : ∀ (j : Nat) t v, Try.f4.params[j]? = some t → args[j]? = some v → Value.okWide Try.prog W .any base t v := hval0
  have hW' := hW
  obtain ⟨p, q, hA0, hV, rfl, hfz, hnd⟩ := hW
  have hA : DataW.TrodAll enc Try.prog W 0 (fun _ => true) true Try.f4.params.toList args.toList ds p := hA0
  rw [Try.params4] at hA hval
  obtain ⟨v0, vs0, d0, ds0, p0, q0, hargs, rfl, rfl, h0, r0⟩ := trodAll_cons hA
  obtain ⟨v1, vs1, d1, ds1, p1, q1, rfl, rfl, rfl, h1, r1⟩ := trodAll_cons r0
  obtain ⟨rfl, rfl, rfl⟩ := trodAll_nil r1
  obtain rfl : args = #[v0, v1] := by cases args; simp_all
  obtain ⟨rfl, rfl⟩ := trodVars_none hV
  have k0 := h0
  have lt0 : ∀ x ∈ p0, x.block < W.heap.size := by obtain ⟨m, hm⟩ := k0; exact DataW.trod_lt m _ _ _ hm
  obtain ⟨a0, rfl, rfl, rfl, w0⟩ := open_int Try.underlying3 (hval 0 3 v0 rfl rfl) h0
  have k1 := h1
  have lt1 : ∀ x ∈ p1, x.block < W.heap.size := by obtain ⟨m, hm⟩ := k1; exact DataW.trod_lt m _ _ _ hm
  obtain ⟨a1, rfl, rfl, rfl, w1⟩ := open_int Try.underlying3 (hval 1 3 v1 rfl rfl) h1
  clear hA0 hval0
  refine (walk a0 a1 W w0 w1).mono fun e W' ⟨he, bel⟩ => ?_
  subst he
  exact ⟨_, rfl, _, _, _, [], _, [], hW', trodAll_mk1 (shut_bool Try.underlying4 _), (trodAll_cons_mk (Below.trod laidOut (by kernel_rfl) (of_decide_eq_true (by kernel_rfl)) k0 bel lt0) (trodAll_cons_mk (Below.trod laidOut (by kernel_rfl) (of_decide_eq_true (by kernel_rfl)) k1 bel lt1) trodAll_mk0)), rfl, Below.frame bel _, fun h => by cases h⟩

theorem over : Rows.sizeRoundsRow.holds Try.pinned (OpenSpec.ofChange Rows.sizeRoundsSpec) :=
  OpenClaim.holds_of_wide 4 Try.f4 rfl rfl rfl rfl rfl rfl rfl ⟨rfl, rfl, rfl, rfl, rfl⟩ rfl rfl rfl rfl rfl (by kernel_rfl) Try.func4 (by kernel_rfl)
    (of_decide_eq_true (by kernel_rfl)) (by unfold Func.isWrapper; first | (rw [if_pos (by decide +kernel)]; kernel_rfl) | (rw [if_neg (by decide +kernel)]; exact ⟨rfl, rfl⟩))
    (fun os started H enc _ => lifted os started H enc)

/-- THE STATEMENT -/
theorem proved : Rows.SizeRoundsSaid := over
#print axioms proved
end Go.Proofs.Ytgflhbemfdehlaa.sizeRounds
