/-
  Proved: what is put in a field is got from it, put there again it is the same, and what stood there, put back, makes the word that was ('Rows.BitsBackSaid'). Conditions: none but those of the statement itself.
-/
import Derived.Test.YtkplikhhdhnjkaaRows
import Derived.Test.YtkplikhhdhnjkaaBitsLaws
import Derived.WalkKit
import Derived.ProofKit
import Derived.OpenShut
namespace Go.Proofs.Ytkplikhhdhnjkaa.bitsBack
open Go.ChangeShapes Go.WideShapes Go.ChangeAt Go.RowKit
set_option linter.unusedVariables false      -- a walk need not use every 'w<i>' (that an integer argument fits its kind)

theorem own : ownKnob Try.prog.godebug = none := by kernel_rfl

open Go.Proofs.Ytkplikhhdhnjkaa W64
theorem field_of {a n : Int} (h0 : 0 ≤ n) (h1 : n < 65) (h2 : 0 ≤ a) (h3 : a < 65 - n) : fieldB a n = true := fieldB_iff.2 ⟨h0, by omega, h2, by omega⟩
theorem putB_and {a n : Int} (v : BitVec 64) (h : fieldB a n = true) : putB a n (v &&& mask n) = true := by
  unfold putB; rw [h, fitsB_and]; rfl
theorem putB_get {a n : Int} (x : BitVec 64) (h : fieldB a n = true) : putB a n (getW x a n) = true := by
  have : getW x a n = (x >>> a.toNat) &&& mask n := by unfold getW; rw [if_pos h]
  rw [this]; exact putB_and _ h
theorem get_put (x : BitVec 64) {a n : Int} {v : BitVec 64} (h : putB a n v = true) : getW (putV x a n v) a n = v := by
  have h' := h
  unfold putB at h'
  rw [Bool.and_eq_true] at h'
  obtain ⟨h0, h1, h2, h3⟩ := fieldB_iff.1 h'.1
  have hv := fitsB_iff.1 h'.2
  rw [cutW_in h0 h1] at hv
  apply BitVec.eq_of_getLsbD_eq
  intro i hi
  rw [getW_bit h'.1, putV_bit h]
  by_cases e : i < n.toNat
  · rw [if_pos (by omega), decide_eq_true e, Bool.true_and, show a.toNat + i - a.toNat = i by omega]
  · rw [decide_eq_false e, Bool.false_and, hv i (by omega)]
theorem put_put (x : BitVec 64) {a n : Int} {v u : BitVec 64} (hv : putB a n v = true) (hu : putB a n u = true) : putV (putV x a n v) a n u = putV x a n u := by
  apply BitVec.eq_of_getLsbD_eq
  intro i hi
  rw [putV_bit hu, putV_bit hu, putV_bit hv]
  split <;> rfl
theorem put_get (x : BitVec 64) {a n : Int} (h : fieldB a n = true) : putV x a n (getW x a n) = x := by
  obtain ⟨h0, h1, h2, h3⟩ := fieldB_iff.1 h
  apply BitVec.eq_of_getLsbD_eq
  intro i hi
  rw [putV_bit (putB_get x h), getW_bit h]
  split
  · rw [decide_eq_true (by omega), Bool.true_and, show a.toNat + (i - a.toNat) = i by omega]
  · rfl

/-! ### STEP 1: THE WALK: the Go text returns true. 'Grown w w'': the world has at most new blocks (Derived/RowKit3.lean). Part the cases AHEAD of 'go_enter' where a test parts the walk; take each callee by a contract of your own. -/
set_option maxHeartbeats 2000000 in
theorem walk (a0 : Int) (a1 : Int) (a2 : Int) (a3 : Int) (w0 : (Lit.int .u64 a0).wf = true) (w1 : (Lit.int .i64 a1).wf = true) (w2 : (Lit.int .i64 a2).wf = true) (w3 : (Lit.int .u64 a3).wf = true) (w : World) :
    Calls Try.prog 4 #[.int .u64 a0, .int .i64 a1, .int .i64 a2, .int .u64 a3] w fun e w' => e = .returned (.bool true) ∧ Grown w w' := by
  obtain ⟨x, rfl⟩ := U_of a0 w0
  obtain ⟨v, rfl⟩ := U_of a3 w3
  clear w0 w1 w2 w3
  have h0 := Int.emod_nonneg a2 (show (65 : Int) ≠ 0 by decide)
  have h1 := Int.emod_lt_of_pos a2 (show (0 : Int) < 65 by decide)
  have h2 := Int.emod_nonneg a1 (show (65 - a2 % 65 : Int) ≠ 0 by omega)
  have h3 := Int.emod_lt_of_pos a1 (show (0 : Int) < 65 - a2 % 65 by omega)
  have hf := field_of h0 h1 h2 h3
  have p1 := Lib.hid (putB_and v hf)
  have p2 := Lib.hid (putB_get x hf)
  have t1 : (U (getW (putV x (a1 % (65 - a2 % 65)) (a2 % 65) (v &&& mask (a2 % 65))) (a1 % (65 - a2 % 65)) (a2 % 65)) == bits .and .u64 (U v) (U (mask (a2 % 65)))) = true := beq_iff_eq.2 (by rw [get_put _ p1.out, and_U])
  have t2 : (U (putV (putV x (a1 % (65 - a2 % 65)) (a2 % 65) (v &&& mask (a2 % 65))) (a1 % (65 - a2 % 65)) (a2 % 65) (v &&& mask (a2 % 65))) == U (putV x (a1 % (65 - a2 % 65)) (a2 % 65) (v &&& mask (a2 % 65)))) = true :=
    beq_iff_eq.2 (by rw [put_put _ p1.out p1.out])
  have t3 : (U (putV (putV x (a1 % (65 - a2 % 65)) (a2 % 65) (v &&& mask (a2 % 65))) (a1 % (65 - a2 % 65)) (a2 % 65) (getW x (a1 % (65 - a2 % 65)) (a2 % 65))) == U x) = true :=
    beq_iff_eq.2 (by rw [put_put _ p1.out p2.out, put_get _ hf])
  clear hf
  go_enter Try.func4, Try.ntmps4
  go_wp2_with (first
    | (go_at_call 8; refine (first_any _).mono ?_; rintro e w' ⟨rfl, m1, rfl⟩)
    | (go_at_call 17; refine (number_any _ _ _ (by omega) (by omega)).mono ?_; rintro e w' ⟨rfl, rfl⟩)
    | (go_at_call 11; refine (mask_any _ _).mono ?_; rintro e w' ⟨rfl, rfl⟩)
    | (go_at_call 15; refine (get_any _ _ _ _).mono ?_; rintro e w' ⟨rfl, m2, rfl⟩)
    | (go_at_call 9; (with_reducible refine (put_at_yes _ _ _ _ rfl (and_U _ _) _ _ _ p1.out).mono ?_); rintro e w' ⟨rfl, m3, rfl⟩)
    | (go_at_call 9; (with_reducible refine (put_at_yes _ _ _ _ rfl rfl _ _ _ p2.out).mono ?_); rintro e w' ⟨rfl, m4, rfl⟩))
  go_ret
  exact ⟨rfl, grown_drewN _ _⟩

/-! ### THE ROW's STEP: WRITTEN OUT: LEAVE IT -/
set_option maxRecDepth 100000 in
theorem lifted (os : Os) (started : os.Started) (H : Type) (enc : TypeId × Value → H) :
    ReturnsInHanded {} Try.checked os 4 .any (Rows.bitsBackSpec.pre6 enc Try.prog Try.f4 Rows.bitsBackRow.domain false) (Rows.bitsBackSpec.post enc Try.prog Try.f4 false true false false) := by
  refine returnsInHanded_of_change (C := Try.checked) own started (by kernel_rfl) Try.func4
    (ChangeSpec.witness6 (enc := enc) (C := Try.checked) false ⟨#[], #[.int .u64 0, .int .i64 0, .int .i64 0, .int .u64 0], []⟩ 8 (by kernel_rfl) (by kernel_rfl) (by kernel_rfl) (by kernel_rfl)) ?_
  intro W base args ds gs before hval0 hW hcnd _
  have hval : ∀ (j : Nat) t v, Try.f4.params[j]? = some t → args[j]? = some v → Value.okWide Try.prog W .any base t v := hval0
  have hW' := hW
  obtain ⟨p, q, hA0, hV, rfl, hfz, hnd⟩ := hW
  have hA : DataW.TrodAll enc Try.prog W 0 (fun _ => true) true Try.f4.params.toList args.toList ds p := hA0
  rw [Try.params4] at hA hval
  obtain ⟨v0, vs0, d0, ds0, p0, q0, hargs, rfl, rfl, h0, r0⟩ := trodAll_cons hA
  obtain ⟨v1, vs1, d1, ds1, p1, q1, rfl, rfl, rfl, h1, r1⟩ := trodAll_cons r0
  obtain ⟨v2, vs2, d2, ds2, p2, q2, rfl, rfl, rfl, h2, r2⟩ := trodAll_cons r1
  obtain ⟨v3, vs3, d3, ds3, p3, q3, rfl, rfl, rfl, h3, r3⟩ := trodAll_cons r2
  obtain ⟨rfl, rfl, rfl⟩ := trodAll_nil r3
  obtain rfl : args = #[v0, v1, v2, v3] := by cases args; simp_all
  obtain ⟨rfl, rfl⟩ := trodVars_none hV
  obtain ⟨a0, rfl, rfl, rfl, w0⟩ := open_int Try.underlying22 (hval 0 22 v0 rfl rfl) h0
  obtain ⟨a1, rfl, rfl, rfl, w1⟩ := open_int Try.underlying3 (hval 1 3 v1 rfl rfl) h1
  obtain ⟨a2, rfl, rfl, rfl, w2⟩ := open_int Try.underlying3 (hval 2 3 v2 rfl rfl) h2
  obtain ⟨a3, rfl, rfl, rfl, w3⟩ := open_int Try.underlying22 (hval 3 22 v3 rfl rfl) h3
  clear hA0 hval0
  simp only [List.append_nil] at hW'
  refine (walk a0 a1 a2 a3 w0 w1 w2 w3 W).mono fun e W' ⟨he, hg⟩ => ?_
  subst he
  exact ⟨_, rfl, post_of_same (pa := []) (pv := []) hW' (fun _ _ _ => (trodAll_cons_mk (shut_bool Try.underlying4 _) trodAll_mk0)) (fun sp _ => (trodAll_cons_mk (shut_int Try.underlying22 w0) (trodAll_cons_mk (shut_int Try.underlying3 w1) (trodAll_cons_mk (shut_int Try.underlying3 w2) (trodAll_cons_mk (shut_int Try.underlying22 w3) trodAll_mk0))))) (fun _ _ => rfl) rfl
    (hg.frame _) hg.2.1 (ok_one (by kernel_rfl) rfl (okWide_bool_mk Try.underlying4 _))⟩

theorem over : Rows.bitsBackRow.holds Try.pinned (OpenSpec.ofChange Rows.bitsBackSpec) :=
  OpenClaim.holds_of_wide 4 Try.f4 rfl rfl rfl rfl rfl rfl rfl ⟨rfl, rfl, rfl, rfl, rfl⟩ rfl rfl rfl rfl rfl (by kernel_rfl) Try.func4 (by kernel_rfl)
    (of_decide_eq_true (by kernel_rfl)) (by unfold Func.isWrapper; first | (rw [if_pos (by decide +kernel)]; kernel_rfl) | (rw [if_neg (by decide +kernel)]; exact ⟨rfl, rfl⟩))
    (fun os started H enc _ => lifted os started H enc)

/-- ████ THE STATEMENT ████ -/
theorem proved : Rows.BitsBackSaid :=
  over
#print axioms proved
end Go.Proofs.Ytkplikhhdhnjkaa.bitsBack
