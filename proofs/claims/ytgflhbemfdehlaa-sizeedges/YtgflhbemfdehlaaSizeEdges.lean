/-
  Proved: the greatest request that fits and the least that doesn't, half a chunk and a word more, and numbers that are none, are answered as they must be by Fits, Alone and After ('Rows.SizeEdgesSaid'). Conditions: none but those of the statement itself.
-/
import Derived.Test.YtgflhbemfdehlaaRows
import Derived.Test.YtgflhbemfdehlaaSizeLaws
import Derived.WalkKit
import Derived.ProofKit
import Derived.OpenShut
import Derived.ShutString
import Derived.ChangeOld
import Derived.Below
import Derived.Carry
import Derived.Lib.SmallJoins
namespace Go.Proofs.Ytgflhbemfdehlaa.sizeEdges
open Go.ChangeShapes Go.WideShapes Go.ChangeAt Go.RowKit Go.Joins Go.Proofs.Ytgflhbemfdehlaa W64
open Go.ChangeMaps (open_string shut_string)
set_option linter.unusedVariables false

theorem own : ownKnob Try.prog.godebug = none := by kernel_rfl
theorem laidOut : laidOutB Try.prog = true := by kernel_rfl


set_option maxHeartbeats 2000000 in
theorem walk (a0 : Int) (a1 : Int) (a2 : Int) (w : World) (w0 : (Lit.int .i64 a0).wf = true) (w1 : (Lit.int .i64 a1).wf = true) (w2 : (Lit.int .i64 a2).wf = true) :
    Calls Try.prog 6 #[.int .i64 a0, .int .i64 a1, .int .i64 a2] w fun e w' => e = .returned (.bool true) ∧ Up w w' := by
  clear w0 w1 w2
  obtain ⟨k, hk⟩ : ∃ k, a0 % 128 = k := ⟨_, rfl⟩
  have k0 : 0 ≤ k := by omega
  have k1 : k < 128 := by omega
  have HK := Lib.hid hk
  clear hk
  obtain ⟨o, ho⟩ : ∃ o, a1 % (8 * (1 + k) + 1) = o := ⟨_, rfl⟩
  have o0 : 0 ≤ o := ho ▸ Int.emod_nonneg _ (by omega)
  have o1 : o < 8 * (1 + k) + 1 := ho ▸ Int.emod_lt_of_pos _ (by omega)
  have HO := Lib.hid ho
  clear ho
  obtain ⟨q, hq⟩ : ∃ q, a2 % (8 * (1 + k)) = q := ⟨_, rfl⟩
  have q0 : 0 ≤ q := hq ▸ Int.emod_nonneg _ (by omega)
  have q1 : q < 8 * (1 + k) := hq ▸ Int.emod_lt_of_pos _ (by omega)
  have HQ := Lib.hid hq
  clear hq
  have e2 := Lib.hid (aloneB_no (x := 8 * (1 + k)) (n := 8 * (1 + k) / 2) (by omega))
  have e3 := Lib.hid (aloneB_iff.2 (show (1 ≤ 8 * (1 + k) / 2 + 1 ∧ 8 * (1 + k) / 2 + 1 ≤ 8 * (1 + k) ∧ 8 * (1 + k) ≤ 1024) ∧ 8 * (1 + k) - (8 * (1 + k) / 2 + 1) < 8 * (1 + k) / 2 + 1 by omega))
  have e4 := Lib.hid (afterN_half (x := 8 * (1 + k)) (n := 8 * (1 + k) / 2) (by omega) (by omega))
  have e5 := Lib.hid (afterN_all (x := 8 * (1 + k)) (n := 8 * (1 + k) / 2 + 1) (by omega) (by omega))
  have e6 := Lib.hid (fits2B_no (x := 8 * (1 + k)) (o := -1 - o) (n := 1 + q) (by omega))
  have e7 := Lib.hid (fits2B_no (x := 8 * (1 + k)) (o := 8 * (1 + k) + (1 + q)) (n := 1 + q) (by omega))
  have e8 := Lib.hid (fits2B_no (x := 8 * (1 + k)) (o := 0) (n := 0) (by omega))
  have e9 := Lib.hid (afterN_no (x := 8 * (1 + k)) (n := 0) (by omega))
  have e10 := Lib.hid (afterN_no (x := 8 * (1 + k)) (n := 8 * (1 + k) + (1 + q)) (by omega))
  have e11 := Lib.hid (aloneB_no (x := 0) (n := 1) (by omega))
  have e12 := Lib.hid (aloneB_no (x := 8 * (1 + k)) (n := -(1 + q)) (by omega))
  by_cases hm : 8 * (1 + k) - o ≤ 8 * (1 + k) / 2
  · have e1 := Lib.hid (fits2B_is (x := 8 * (1 + k)) (o := o) (n := 1 + q) (m := 8 * (1 + k) - o) (by omega))
    go_enter Try.func6, Try.ntmps6
    go_wp2_with (first
      | (go_at_call 7; refine (first_any _).mono ?_; rintro e w1 ⟨rfl, u1⟩)
      | (go_at_call 16; (with_reducible refine (number_is HK.out (by decide) (by decide) _).mono ?_); rintro e w' ⟨rfl, rfl⟩)
      | (go_at_call 16; (with_reducible refine (number_is HO.out (by omega) (by omega) _).mono ?_); rintro e w' ⟨rfl, rfl⟩)
      | (go_at_call 16; (with_reducible refine (number_is HQ.out (by omega) (by omega) _).mono ?_); rintro e w' ⟨rfl, rfl⟩)
      | (go_at_call 12; (with_reducible refine (fits2_is e1.out _).mono ?_); rintro e w' ⟨rfl, rfl⟩)
      | (go_at_call 12; (with_reducible refine (fits2_is e6.out _).mono ?_); rintro e w' ⟨rfl, rfl⟩)
      | (go_at_call 12; (with_reducible refine (fits2_is e7.out _).mono ?_); rintro e w' ⟨rfl, rfl⟩)
      | (go_at_call 12; (with_reducible refine (fits2_is e8.out _).mono ?_); rintro e w' ⟨rfl, rfl⟩)
      | (go_at_call 10; (with_reducible refine (alone_is e2.out _).mono ?_); rintro e w' ⟨rfl, rfl⟩)
      | (go_at_call 10; (with_reducible refine (alone_is e3.out _).mono ?_); rintro e w' ⟨rfl, rfl⟩)
      | (go_at_call 10; (with_reducible refine (alone_is e11.out _).mono ?_); rintro e w' ⟨rfl, rfl⟩)
      | (go_at_call 10; (with_reducible refine (alone_is e12.out _).mono ?_); rintro e w' ⟨rfl, rfl⟩)
      | (go_at_call 14; (with_reducible refine (after_is e4.out _).mono ?_); rintro e w' ⟨rfl, rfl⟩)
      | (go_at_call 14; (with_reducible refine (after_is e5.out _).mono ?_); rintro e w' ⟨rfl, rfl⟩)
      | (go_at_call 14; (with_reducible refine (after_is e9.out _).mono ?_); rintro e w' ⟨rfl, rfl⟩)
      | (go_at_call 14; (with_reducible refine (after_is e10.out _).mono ?_); rintro e w' ⟨rfl, rfl⟩))
    go_ret
    exact ⟨rfl, u1⟩
  · have e1 := Lib.hid (fits2B_is (x := 8 * (1 + k)) (o := o) (n := 1 + q) (m := 8 * (1 + k) / 2) (by omega))
    go_enter Try.func6, Try.ntmps6
    go_wp2_with (first
      | (go_at_call 7; refine (first_any _).mono ?_; rintro e w1 ⟨rfl, u1⟩)
      | (go_at_call 16; (with_reducible refine (number_is HK.out (by decide) (by decide) _).mono ?_); rintro e w' ⟨rfl, rfl⟩)
      | (go_at_call 16; (with_reducible refine (number_is HO.out (by omega) (by omega) _).mono ?_); rintro e w' ⟨rfl, rfl⟩)
      | (go_at_call 16; (with_reducible refine (number_is HQ.out (by omega) (by omega) _).mono ?_); rintro e w' ⟨rfl, rfl⟩)
      | (go_at_call 12; (with_reducible refine (fits2_is e1.out _).mono ?_); rintro e w' ⟨rfl, rfl⟩)
      | (go_at_call 12; (with_reducible refine (fits2_is e6.out _).mono ?_); rintro e w' ⟨rfl, rfl⟩)
      | (go_at_call 12; (with_reducible refine (fits2_is e7.out _).mono ?_); rintro e w' ⟨rfl, rfl⟩)
      | (go_at_call 12; (with_reducible refine (fits2_is e8.out _).mono ?_); rintro e w' ⟨rfl, rfl⟩)
      | (go_at_call 10; (with_reducible refine (alone_is e2.out _).mono ?_); rintro e w' ⟨rfl, rfl⟩)
      | (go_at_call 10; (with_reducible refine (alone_is e3.out _).mono ?_); rintro e w' ⟨rfl, rfl⟩)
      | (go_at_call 10; (with_reducible refine (alone_is e11.out _).mono ?_); rintro e w' ⟨rfl, rfl⟩)
      | (go_at_call 10; (with_reducible refine (alone_is e12.out _).mono ?_); rintro e w' ⟨rfl, rfl⟩)
      | (go_at_call 14; (with_reducible refine (after_is e4.out _).mono ?_); rintro e w' ⟨rfl, rfl⟩)
      | (go_at_call 14; (with_reducible refine (after_is e5.out _).mono ?_); rintro e w' ⟨rfl, rfl⟩)
      | (go_at_call 14; (with_reducible refine (after_is e9.out _).mono ?_); rintro e w' ⟨rfl, rfl⟩)
      | (go_at_call 14; (with_reducible refine (after_is e10.out _).mono ?_); rintro e w' ⟨rfl, rfl⟩))
    go_ret
    exact ⟨rfl, u1⟩

set_option maxRecDepth 100000 in
theorem lifted (os : Os) (started : os.Started) (H : Type) (enc : TypeId × Value → H) :
    ReturnsInHanded {} Try.checked os 6 .any (Rows.sizeEdgesSpec.pre6 enc Try.prog Try.f6 Rows.sizeEdgesRow.domain false) (Rows.sizeEdgesSpec.post enc Try.prog Try.f6 false true false false) := by
  refine returnsInHanded_of_change (C := Try.checked) own started (by kernel_rfl) Try.func6
    (ChangeSpec.witness6 (enc := enc) (C := Try.checked) false ⟨#[], #[.int .i64 0, .int .i64 0, .int .i64 0], []⟩ 8 (by kernel_rfl) (by kernel_rfl) (by kernel_rfl) (by kernel_rfl)) ?_
  intro W base args ds gs before hval0 hW hcnd _
  have hval : ∀ (j : Nat) t v, Try.f6.params[j]? = some t → args[j]? = some v → Value.okWide Try.prog W .any base t v := hval0
  have hW' := hW
  obtain ⟨p, q, hA0, hV, rfl, hfz, hnd⟩ := hW
  have hA : DataW.TrodAll enc Try.prog W 0 (fun _ => true) true Try.f6.params.toList args.toList ds p := hA0
  rw [Try.params6] at hA hval
  obtain ⟨v0, vs0, d0, ds0, p0, q0, hargs, rfl, rfl, h0, r0⟩ := trodAll_cons hA
  obtain ⟨v1, vs1, d1, ds1, p1, q1, rfl, rfl, rfl, h1, r1⟩ := trodAll_cons r0
  obtain ⟨v2, vs2, d2, ds2, p2, q2, rfl, rfl, rfl, h2, r2⟩ := trodAll_cons r1
  obtain ⟨rfl, rfl, rfl⟩ := trodAll_nil r2
  obtain rfl : args = #[v0, v1, v2] := by cases args; simp_all
  obtain ⟨rfl, rfl⟩ := trodVars_none hV
  have k0 := h0
  have lt0 : ∀ x ∈ p0, x.block < W.heap.size := by obtain ⟨m, hm⟩ := k0; exact DataW.trod_lt m _ _ _ hm
  obtain ⟨a0, rfl, rfl, rfl, w0⟩ := open_int Try.underlying3 (hval 0 3 v0 rfl rfl) h0
  have k1 := h1
  have lt1 : ∀ x ∈ p1, x.block < W.heap.size := by obtain ⟨m, hm⟩ := k1; exact DataW.trod_lt m _ _ _ hm
  obtain ⟨a1, rfl, rfl, rfl, w1⟩ := open_int Try.underlying3 (hval 1 3 v1 rfl rfl) h1
  have k2 := h2
  have lt2 : ∀ x ∈ p2, x.block < W.heap.size := by obtain ⟨m, hm⟩ := k2; exact DataW.trod_lt m _ _ _ hm
  obtain ⟨a2, rfl, rfl, rfl, w2⟩ := open_int Try.underlying3 (hval 2 3 v2 rfl rfl) h2
  clear hA0 hval0
  refine (walk a0 a1 a2 W w0 w1 w2).mono fun e W' ⟨he, bel⟩ => ?_
  subst he
  exact ⟨_, rfl, _, _, _, [], _, [], hW', trodAll_mk1 (shut_bool Try.underlying4 _), (trodAll_cons_mk (Below.trod laidOut (by kernel_rfl) (of_decide_eq_true (by kernel_rfl)) k0 bel lt0) (trodAll_cons_mk (Below.trod laidOut (by kernel_rfl) (of_decide_eq_true (by kernel_rfl)) k1 bel lt1) (trodAll_cons_mk (Below.trod laidOut (by kernel_rfl) (of_decide_eq_true (by kernel_rfl)) k2 bel lt2) trodAll_mk0))), rfl, Below.frame bel _, fun h => by cases h⟩

theorem over : Rows.sizeEdgesRow.holds Try.pinned (OpenSpec.ofChange Rows.sizeEdgesSpec) :=
  OpenClaim.holds_of_wide 6 Try.f6 rfl rfl rfl rfl rfl rfl rfl ⟨rfl, rfl, rfl, rfl, rfl⟩ rfl rfl rfl rfl rfl (by kernel_rfl) Try.func6 (by kernel_rfl)
    (of_decide_eq_true (by kernel_rfl)) (by unfold Func.isWrapper; first | (rw [if_pos (by decide +kernel)]; kernel_rfl) | (rw [if_neg (by decide +kernel)]; exact ⟨rfl, rfl⟩))
    (fun os started H enc _ => lifted os started H enc)

/-- THE STATEMENT -/
theorem proved : Rows.SizeEdgesSaid := over
#print axioms proved
end Go.Proofs.Ytgflhbemfdehlaa.sizeEdges
