/-
  Proved: where there is no field, or a number has more bits than it, Put puts nothing and Get gets nothing ('Rows.BitsNoneSaid'). Conditions: none but those of the statement itself.
-/
import Derived.Test.YtkplikhhdhnjkaaRows
import Derived.Test.YtkplikhhdhnjkaaBitsLaws
import Derived.WalkKit
import Derived.ProofKit
import Derived.OpenShut
namespace Go.Proofs.Ytkplikhhdhnjkaa.bitsNone
open Go.ChangeShapes Go.WideShapes Go.ChangeAt Go.RowKit
set_option linter.unusedVariables false      -- a walk need not use every 'w<i>' (that an integer argument fits its kind)

theorem own : ownKnob Try.prog.godebug = none := by kernel_rfl

open Go.Proofs.Ytkplikhhdhnjkaa W64
theorem no_at {a n : Int} (v : BitVec 64) (h : 64 - n < a ∨ a < 0 ∨ n < 0) : putB a n v = false := by
  unfold putB
  have : fieldB a n = false := by
    cases hf : fieldB a n
    · rfl
    · obtain ⟨_, _, _, _⟩ := fieldB_iff.1 hf; omega
  rw [this]; rfl
theorem no_get {a n : Int} (x : BitVec 64) (h : 64 - n < a ∨ a < 0 ∨ n < 0) : U (getW x a n) = 0 := by
  unfold getW
  have : ¬ fieldB a n = true := by
    intro hf
    obtain ⟨_, _, _, _⟩ := fieldB_iff.1 hf; omega
  rw [if_neg this]; rfl
theorem no_fit {n : Int} (h0 : 0 ≤ n) (h1 : n < 64) : putB 0 n (mask n + 1#64) = false := by
  have : fitsB (mask n + 1#64) n = false := by
    have hk : 2 ^ n.toNat ≤ 2 ^ 63 := Nat.pow_le_pow_right (by decide) (by omega)
    have hp : 0 < 2 ^ n.toNat := Nat.two_pow_pos _
    rw [fitsB_le, decide_eq_false_iff_not, BitVec.le_def, BitVec.toNat_add, mask_toNat, cutW_in h0 (by omega)]
    have : (1#64).toNat = 1 := rfl
    omega
  unfold putB; rw [this, Bool.and_false]
theorem one_more (n : Int) : IntKind.u64.wrap (U (mask n) + 1) = U (mask n + 1#64) := add_U (mask n) 1#64
theorem and_seven (v : BitVec 64) : bits .and .u64 (U v) 7 = U (v &&& 7#64) := and_U v 7#64

/-! ### STEP 1: THE WALK: the Go text returns true. 'Grown w w'': the world has at most new blocks (Derived/RowKit3.lean). Part the cases AHEAD of 'go_enter' where a test parts the walk; take each callee by a contract of your own. -/
set_option maxHeartbeats 2000000 in
theorem walk (a0 : Int) (a1 : Int) (a2 : Int) (a3 : Int) (w0 : (Lit.int .u64 a0).wf = true) (w1 : (Lit.int .i64 a1).wf = true) (w2 : (Lit.int .i64 a2).wf = true) (w3 : (Lit.int .u64 a3).wf = true) (w : World) :
    Calls Try.prog 6 #[.int .u64 a0, .int .i64 a1, .int .i64 a2, .int .u64 a3] w fun e w' => e = .returned (.bool true) ∧ Grown w w' := by
  obtain ⟨x, rfl⟩ := U_of a0 w0
  obtain ⟨v, rfl⟩ := U_of a3 w3
  clear w0 w1 w2 w3
  have h0 := Int.emod_nonneg a2 (show (65 : Int) ≠ 0 by decide)
  have h1 := Int.emod_lt_of_pos a2 (show (0 : Int) < 65 by decide)
  have h2 := Int.emod_nonneg a1 (show (1000 : Int) ≠ 0 by decide)
  have h3 := Int.emod_lt_of_pos a1 (show (0 : Int) < 1000 by decide)
  have h4 := Int.emod_nonneg a2 (show (64 : Int) ≠ 0 by decide)
  have h5 := Int.emod_lt_of_pos a2 (show (0 : Int) < 64 by decide)
  have h6 := Int.emod_nonneg a2 (show (1000 : Int) ≠ 0 by decide)
  have h7 := Int.emod_lt_of_pos a2 (show (0 : Int) < 1000 by decide)
  have p1 := Lib.hid (no_at (a := 65 - a2 % 65 + a1 % 1000) (n := a2 % 65) 0#64 (by omega))
  have p2 := Lib.hid (no_fit h4 h5)
  have p3 := Lib.hid (no_at (a := -1 - a1 % 1000) (n := 3) (v &&& 7#64) (by omega))
  have p4 := Lib.hid (no_at (a := 0) (n := -1 - a2 % 1000) 0#64 (by omega))
  have t1 : (U (getW x (65 - a2 % 65 + a1 % 1000) (a2 % 65)) == 0) = true := beq_iff_eq.2 (no_get x (by omega))
  have t2 : (U (getW x 0 (65 + a1 % 1000)) == 0) = true := beq_iff_eq.2 (no_get x (by omega))
  go_enter Try.func6, Try.ntmps6
  go_wp2_with (first
    | (go_at_call 8; refine (first_any _).mono ?_; rintro e w' ⟨rfl, m1, rfl⟩)
    | (go_at_call 17; refine (number_any _ _ _ (by decide) (by decide)).mono ?_; rintro e w' ⟨rfl, rfl⟩)
    | (go_at_call 11; refine (mask_any _ _).mono ?_; rintro e w' ⟨rfl, rfl⟩)
    | (go_at_call 15; refine (get_any _ _ _ _).mono ?_; rintro e w' ⟨rfl, m2, rfl⟩)
    | (go_at_call 9; (with_reducible refine (put_at_no _ _ _ _ rfl U_zero.symm _ _ _ p1.out).mono ?_); rintro e w' ⟨rfl, rfl⟩)
    | (go_at_call 9; (with_reducible refine (put_at_no _ _ _ _ rfl (one_more _) _ _ _ p2.out).mono ?_); rintro e w' ⟨rfl, rfl⟩)
    | (go_at_call 9; (with_reducible refine (put_at_no _ _ _ _ rfl (and_seven _) _ _ _ p3.out).mono ?_); rintro e w' ⟨rfl, rfl⟩)
    | (go_at_call 9; (with_reducible refine (put_at_no _ _ _ _ rfl U_zero.symm _ _ _ p4.out).mono ?_); rintro e w' ⟨rfl, rfl⟩))
  go_ret
  exact ⟨rfl, grown_drewN _ _⟩

/-! ### THE ROW's STEP: WRITTEN OUT: LEAVE IT -/
set_option maxRecDepth 100000 in
theorem lifted (os : Os) (started : os.Started) (H : Type) (enc : TypeId × Value → H) :
    ReturnsInHanded {} Try.checked os 6 .any (Rows.bitsNoneSpec.pre6 enc Try.prog Try.f6 Rows.bitsNoneRow.domain false) (Rows.bitsNoneSpec.post enc Try.prog Try.f6 false true false false) := by
  refine returnsInHanded_of_change (C := Try.checked) own started (by kernel_rfl) Try.func6
    (ChangeSpec.witness6 (enc := enc) (C := Try.checked) false ⟨#[], #[.int .u64 0, .int .i64 0, .int .i64 0, .int .u64 0], []⟩ 8 (by kernel_rfl) (by kernel_rfl) (by kernel_rfl) (by kernel_rfl)) ?_
  intro W base args ds gs before hval0 hW hcnd _
  have hval : ∀ (j : Nat) t v, Try.f6.params[j]? = some t → args[j]? = some v → Value.okWide Try.prog W .any base t v := hval0
  have hW' := hW
  obtain ⟨p, q, hA0, hV, rfl, hfz, hnd⟩ := hW
  have hA : DataW.TrodAll enc Try.prog W 0 (fun _ => true) true Try.f6.params.toList args.toList ds p := hA0
  rw [Try.params6] at hA hval
  obtain ⟨v0, vs0, d0, ds0, p0, q0, hargs, rfl, rfl, h0, r0⟩ := trodAll_cons hA
  obtain ⟨v1, vs1, d1, ds1, p1, q1, rfl, rfl, rfl, h1, r1⟩ := trodAll_cons r0
  obtain ⟨v2, vs2, d2, ds2, p2, q2, rfl, rfl, rfl, h2, r2⟩ := trodAll_cons r1
  obtain ⟨v3, vs3, d3, ds3, p3, q3, rfl, rfl, rfl, h3, r3⟩ := trodAll_cons r2
  obtain ⟨rfl, rfl, rfl⟩ := trodAll_nil r3
  obtain rfl : args = #[v0, v1, v2, v3] := by cases args; simp_all
  obtain ⟨rfl, rfl⟩ := trodVars_none hV
  obtain ⟨a0, rfl, rfl, rfl, w0⟩ := open_int Try.underlying22 (hval 0 22 v0 rfl rfl) h0
  obtain ⟨a1, rfl, rfl, rfl, w1⟩ := open_int Try.underlying3 (hval 1 3 v1 rfl rfl) h1
  obtain ⟨a2, rfl, rfl, rfl, w2⟩ := open_int Try.underlying3 (hval 2 3 v2 rfl rfl) h2
  obtain ⟨a3, rfl, rfl, rfl, w3⟩ := open_int Try.underlying22 (hval 3 22 v3 rfl rfl) h3
  clear hA0 hval0
  simp only [List.append_nil] at hW'
  refine (walk a0 a1 a2 a3 w0 w1 w2 w3 W).mono fun e W' ⟨he, hg⟩ => ?_
  subst he
  exact ⟨_, rfl, post_of_same (pa := []) (pv := []) hW' (fun _ _ _ => (trodAll_cons_mk (shut_bool Try.underlying4 _) trodAll_mk0)) (fun sp _ => (trodAll_cons_mk (shut_int Try.underlying22 w0) (trodAll_cons_mk (shut_int Try.underlying3 w1) (trodAll_cons_mk (shut_int Try.underlying3 w2) (trodAll_cons_mk (shut_int Try.underlying22 w3) trodAll_mk0))))) (fun _ _ => rfl) rfl
    (hg.frame _) hg.2.1 (ok_one (by kernel_rfl) rfl (okWide_bool_mk Try.underlying4 _))⟩

theorem over : Rows.bitsNoneRow.holds Try.pinned (OpenSpec.ofChange Rows.bitsNoneSpec) :=
  OpenClaim.holds_of_wide 6 Try.f6 rfl rfl rfl rfl rfl rfl rfl ⟨rfl, rfl, rfl, rfl, rfl⟩ rfl rfl rfl rfl rfl (by kernel_rfl) Try.func6 (by kernel_rfl)
    (of_decide_eq_true (by kernel_rfl)) (by unfold Func.isWrapper; first | (rw [if_pos (by decide +kernel)]; kernel_rfl) | (rw [if_neg (by decide +kernel)]; exact ⟨rfl, rfl⟩))
    (fun os started H enc _ => lifted os started H enc)

/-- ████ THE STATEMENT ████ -/
theorem proved : Rows.BitsNoneSaid :=
  over
#print axioms proved
end Go.Proofs.Ytkplikhhdhnjkaa.bitsNone
