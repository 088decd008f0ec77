/-
  Proved: of two fields that share no bit each is as it was when the other one is put, in whichever order ('Rows.BitsApartSaid'). Conditions: none but those of the statement itself.
-/
import Derived.Test.YtkplikhhdhnjkaaRows
import Derived.Test.YtkplikhhdhnjkaaBitsLaws
import Derived.WalkKit
import Derived.ProofKit
import Derived.OpenShut
namespace Go.Proofs.Ytkplikhhdhnjkaa.bitsApart
open Go.ChangeShapes Go.WideShapes Go.ChangeAt Go.RowKit
set_option linter.unusedVariables false      -- a walk need not use every 'w<i>' (that an integer argument fits its kind)

theorem own : ownKnob Try.prog.godebug = none := by kernel_rfl

open Go.Proofs.Ytkplikhhdhnjkaa W64
theorem putB_and {a n : Int} (v : BitVec 64) (h0 : 0 ≤ n) (h1 : n ≤ 64) (h2 : 0 ≤ a) (h3 : a ≤ 64 - n) : putB a n (v &&& mask n) = true := by
  unfold putB; rw [fieldB_iff.2 ⟨h0, h1, h2, h3⟩, fitsB_and]; rfl
theorem field_of_put {a n : Int} {v : BitVec 64} (h : putB a n v = true) : fieldB a n = true := by
  unfold putB at h; rw [Bool.and_eq_true] at h; exact h.1
theorem get_put (x : BitVec 64) {a n : Int} {v : BitVec 64} (h : putB a n v = true) : getW (putV x a n v) a n = v := by
  have h' := h
  unfold putB at h'
  rw [Bool.and_eq_true] at h'
  obtain ⟨h0, h1, h2, h3⟩ := fieldB_iff.1 h'.1
  have hv := fitsB_iff.1 h'.2
  rw [cutW_in h0 h1] at hv
  apply BitVec.eq_of_getLsbD_eq
  intro i hi
  rw [getW_bit h'.1, putV_bit h]
  by_cases e : i < n.toNat
  · rw [if_pos (by omega), decide_eq_true e, Bool.true_and, show a.toNat + i - a.toNat = i by omega]
  · rw [decide_eq_false e, Bool.false_and, hv i (by omega)]
theorem put_swap (x : BitVec 64) {a n b m : Int} {v u : BitVec 64} (hv : putB a n v = true) (hu : putB b m u = true) (h : a.toNat + n.toNat ≤ b.toNat) :
    putV (putV x a n v) b m u = putV (putV x b m u) a n v := by
  apply BitVec.eq_of_getLsbD_eq
  intro i hi
  rw [putV_bit hu, putV_bit hv, putV_bit hv, putV_bit hu]
  by_cases e : b.toNat ≤ i ∧ i < b.toNat + m.toNat
  · rw [if_pos e, if_neg (by omega), if_pos e]
  · rw [if_neg e, if_neg e]
theorem get_other (x : BitVec 64) {a n b m : Int} {v : BitVec 64} (hv : putB a n v = true) (hf : fieldB b m = true) (h : a.toNat + n.toNat ≤ b.toNat) :
    getW (putV x a n v) b m = getW x b m := by
  apply BitVec.eq_of_getLsbD_eq
  intro i hi
  rw [getW_bit hf, getW_bit hf, putV_bit hv, if_neg (by omega)]

/-! ### STEP 1: THE WALK: the Go text returns true. 'Grown w w'': the world has at most new blocks (Derived/RowKit3.lean). Part the cases AHEAD of 'go_enter' where a test parts the walk; take each callee by a contract of your own. -/
set_option maxHeartbeats 2000000 in
theorem walk (a0 : Int) (a1 : Int) (a2 : Int) (a3 : Int) (a4 : Int) (a5 : Int) (a6 : Int) (w0 : (Lit.int .u64 a0).wf = true) (w1 : (Lit.int .i64 a1).wf = true) (w2 : (Lit.int .i64 a2).wf = true) (w3 : (Lit.int .i64 a3).wf = true) (w4 : (Lit.int .i64 a4).wf = true) (w5 : (Lit.int .u64 a5).wf = true) (w6 : (Lit.int .u64 a6).wf = true) (w : World) :
    Calls Try.prog 5 #[.int .u64 a0, .int .i64 a1, .int .i64 a2, .int .i64 a3, .int .i64 a4, .int .u64 a5, .int .u64 a6] w fun e w' => e = .returned (.bool true) ∧ Grown w w' := by
  obtain ⟨x, rfl⟩ := U_of a0 w0
  obtain ⟨v, rfl⟩ := U_of a5 w5
  obtain ⟨u, rfl⟩ := U_of a6 w6
  clear w0 w1 w2 w3 w4 w5 w6
  have h0 := Int.emod_nonneg a3 (show (30 : Int) ≠ 0 by decide)
  have h1 := Int.emod_lt_of_pos a3 (show (0 : Int) < 30 by decide)
  have h2 := Int.emod_nonneg a4 (show (30 : Int) ≠ 0 by decide)
  have h3 := Int.emod_lt_of_pos a4 (show (0 : Int) < 30 by decide)
  have h4 := Int.emod_nonneg a1 (show (3 : Int) ≠ 0 by decide)
  have h5 := Int.emod_lt_of_pos a1 (show (0 : Int) < 3 by decide)
  have h6 := Int.emod_nonneg a2 (show (3 : Int) ≠ 0 by decide)
  have h7 := Int.emod_lt_of_pos a2 (show (0 : Int) < 3 by decide)
  have p1 := Lib.hid (putB_and (a := a1 % 3) (n := a3 % 30) v (by omega) (by omega) (by omega) (by omega))
  have p2 := Lib.hid (putB_and (a := a1 % 3 + a3 % 30 + a2 % 3) (n := a4 % 30) u (by omega) (by omega) (by omega) (by omega))
  have hle : (a1 % 3).toNat + (a3 % 30).toNat ≤ (a1 % 3 + a3 % 30 + a2 % 3).toNat := by omega
  have t1 : (U (putV (putV x (a1 % 3) (a3 % 30) (v &&& mask (a3 % 30))) (a1 % 3 + a3 % 30 + a2 % 3) (a4 % 30) (u &&& mask (a4 % 30)))
      == U (putV (putV x (a1 % 3 + a3 % 30 + a2 % 3) (a4 % 30) (u &&& mask (a4 % 30))) (a1 % 3) (a3 % 30) (v &&& mask (a3 % 30)))) = true :=
    beq_iff_eq.2 (by rw [put_swap x p1.out p2.out hle])
  have t2 : (U (getW (putV (putV x (a1 % 3) (a3 % 30) (v &&& mask (a3 % 30))) (a1 % 3 + a3 % 30 + a2 % 3) (a4 % 30) (u &&& mask (a4 % 30))) (a1 % 3) (a3 % 30))
      == bits .and .u64 (U v) (U (mask (a3 % 30)))) = true :=
    beq_iff_eq.2 (by rw [put_swap x p1.out p2.out hle, get_put _ p1.out, and_U])
  have t3 : (U (getW (putV (putV x (a1 % 3) (a3 % 30) (v &&& mask (a3 % 30))) (a1 % 3 + a3 % 30 + a2 % 3) (a4 % 30) (u &&& mask (a4 % 30))) (a1 % 3 + a3 % 30 + a2 % 3) (a4 % 30))
      == bits .and .u64 (U u) (U (mask (a4 % 30)))) = true :=
    beq_iff_eq.2 (by rw [get_put _ p2.out, and_U])
  have t4 : (U (getW (putV x (a1 % 3) (a3 % 30) (v &&& mask (a3 % 30))) (a1 % 3 + a3 % 30 + a2 % 3) (a4 % 30))
      == U (getW x (a1 % 3 + a3 % 30 + a2 % 3) (a4 % 30))) = true :=
    beq_iff_eq.2 (by rw [get_other x p1.out (field_of_put p2.out) hle])
  clear hle
  go_enter Try.func5, Try.ntmps5
  go_wp2_with (first
    | (go_at_call 8; refine (first_any _).mono ?_; rintro e w' ⟨rfl, m1, rfl⟩)
    | (go_at_call 17; refine (number_any _ _ _ (by omega) (by omega)).mono ?_; rintro e w' ⟨rfl, rfl⟩)
    | (go_at_call 11; refine (mask_any _ _).mono ?_; rintro e w' ⟨rfl, rfl⟩)
    | (go_at_call 15; refine (get_any _ _ _ _).mono ?_; rintro e w' ⟨rfl, m2, rfl⟩)
    | (go_at_call 9; (with_reducible refine (put_at_yes _ _ _ _ rfl (and_U _ _) _ _ _ p1.out).mono ?_); rintro e w' ⟨rfl, m3, rfl⟩)
    | (go_at_call 9; (with_reducible refine (put_at_yes _ _ _ _ rfl (and_U _ _) _ _ _ p2.out).mono ?_); rintro e w' ⟨rfl, m4, rfl⟩))
  go_ret
  exact ⟨rfl, grown_drewN _ _⟩

/-! ### THE ROW's STEP: WRITTEN OUT: LEAVE IT -/
set_option maxRecDepth 100000 in
theorem lifted (os : Os) (started : os.Started) (H : Type) (enc : TypeId × Value → H) :
    ReturnsInHanded {} Try.checked os 5 .any (Rows.bitsApartSpec.pre6 enc Try.prog Try.f5 Rows.bitsApartRow.domain false) (Rows.bitsApartSpec.post enc Try.prog Try.f5 false true false false) := by
  refine returnsInHanded_of_change (C := Try.checked) own started (by kernel_rfl) Try.func5
    (ChangeSpec.witness6 (enc := enc) (C := Try.checked) false ⟨#[], #[.int .u64 0, .int .i64 0, .int .i64 0, .int .i64 0, .int .i64 0, .int .u64 0, .int .u64 0], []⟩ 8 (by kernel_rfl) (by kernel_rfl) (by kernel_rfl) (by kernel_rfl)) ?_
  intro W base args ds gs before hval0 hW hcnd _
  have hval : ∀ (j : Nat) t v, Try.f5.params[j]? = some t → args[j]? = some v → Value.okWide Try.prog W .any base t v := hval0
  have hW' := hW
  obtain ⟨p, q, hA0, hV, rfl, hfz, hnd⟩ := hW
  have hA : DataW.TrodAll enc Try.prog W 0 (fun _ => true) true Try.f5.params.toList args.toList ds p := hA0
  rw [Try.params5] at hA hval
  obtain ⟨v0, vs0, d0, ds0, p0, q0, hargs, rfl, rfl, h0, r0⟩ := trodAll_cons hA
  obtain ⟨v1, vs1, d1, ds1, p1, q1, rfl, rfl, rfl, h1, r1⟩ := trodAll_cons r0
  obtain ⟨v2, vs2, d2, ds2, p2, q2, rfl, rfl, rfl, h2, r2⟩ := trodAll_cons r1
  obtain ⟨v3, vs3, d3, ds3, p3, q3, rfl, rfl, rfl, h3, r3⟩ := trodAll_cons r2
  obtain ⟨v4, vs4, d4, ds4, p4, q4, rfl, rfl, rfl, h4, r4⟩ := trodAll_cons r3
  obtain ⟨v5, vs5, d5, ds5, p5, q5, rfl, rfl, rfl, h5, r5⟩ := trodAll_cons r4
  obtain ⟨v6, vs6, d6, ds6, p6, q6, rfl, rfl, rfl, h6, r6⟩ := trodAll_cons r5
  obtain ⟨rfl, rfl, rfl⟩ := trodAll_nil r6
  obtain rfl : args = #[v0, v1, v2, v3, v4, v5, v6] := by cases args; simp_all
  obtain ⟨rfl, rfl⟩ := trodVars_none hV
  obtain ⟨a0, rfl, rfl, rfl, w0⟩ := open_int Try.underlying22 (hval 0 22 v0 rfl rfl) h0
  obtain ⟨a1, rfl, rfl, rfl, w1⟩ := open_int Try.underlying3 (hval 1 3 v1 rfl rfl) h1
  obtain ⟨a2, rfl, rfl, rfl, w2⟩ := open_int Try.underlying3 (hval 2 3 v2 rfl rfl) h2
  obtain ⟨a3, rfl, rfl, rfl, w3⟩ := open_int Try.underlying3 (hval 3 3 v3 rfl rfl) h3
  obtain ⟨a4, rfl, rfl, rfl, w4⟩ := open_int Try.underlying3 (hval 4 3 v4 rfl rfl) h4
  obtain ⟨a5, rfl, rfl, rfl, w5⟩ := open_int Try.underlying22 (hval 5 22 v5 rfl rfl) h5
  obtain ⟨a6, rfl, rfl, rfl, w6⟩ := open_int Try.underlying22 (hval 6 22 v6 rfl rfl) h6
  clear hA0 hval0
  simp only [List.append_nil] at hW'
  refine (walk a0 a1 a2 a3 a4 a5 a6 w0 w1 w2 w3 w4 w5 w6 W).mono fun e W' ⟨he, hg⟩ => ?_
  subst he
  exact ⟨_, rfl, post_of_same (pa := []) (pv := []) hW' (fun _ _ _ => (trodAll_cons_mk (shut_bool Try.underlying4 _) trodAll_mk0)) (fun sp _ => (trodAll_cons_mk (shut_int Try.underlying22 w0) (trodAll_cons_mk (shut_int Try.underlying3 w1) (trodAll_cons_mk (shut_int Try.underlying3 w2) (trodAll_cons_mk (shut_int Try.underlying3 w3) (trodAll_cons_mk (shut_int Try.underlying3 w4) (trodAll_cons_mk (shut_int Try.underlying22 w5) (trodAll_cons_mk (shut_int Try.underlying22 w6) trodAll_mk0)))))))) (fun _ _ => rfl) rfl
    (hg.frame _) hg.2.1 (ok_one (by kernel_rfl) rfl (okWide_bool_mk Try.underlying4 _))⟩

theorem over : Rows.bitsApartRow.holds Try.pinned (OpenSpec.ofChange Rows.bitsApartSpec) :=
  OpenClaim.holds_of_wide 5 Try.f5 rfl rfl rfl rfl rfl rfl rfl ⟨rfl, rfl, rfl, rfl, rfl⟩ rfl rfl rfl rfl rfl (by kernel_rfl) Try.func5 (by kernel_rfl)
    (of_decide_eq_true (by kernel_rfl)) (by unfold Func.isWrapper; first | (rw [if_pos (by decide +kernel)]; kernel_rfl) | (rw [if_neg (by decide +kernel)]; exact ⟨rfl, rfl⟩))
    (fun os started H enc _ => lifted os started H enc)

/-- ████ THE STATEMENT ████ -/
theorem proved : Rows.BitsApartSaid :=
  over
#print axioms proved
end Go.Proofs.Ytkplikhhdhnjkaa.bitsApart
