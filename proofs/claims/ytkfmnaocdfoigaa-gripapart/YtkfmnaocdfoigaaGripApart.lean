/-
  GripApart of layer 10: what is held of one region says nothing of another one; a deeper pin holds what the outer one holds; for all numbers.
-/
import Derived.Test.YtkfmnaocdfoigaaRows
import Derived.Test.YtkfmnaocdfoigaaGripLaws
import Derived.WalkKit
import Derived.ProofKit
import Derived.OpenShut
import Derived.ShutString
import Derived.ChangeOld
import Derived.Below
import Derived.Carry
import Derived.Lib.SmallJoins
import Derived.BigQuiet
namespace Go.Proofs.Ytkfmnaocdfoigaa.gripApart
open Go.ChangeShapes Go.WideShapes Go.ChangeAt Go.RowKit Go.Joins Go.Proofs.Ytkfmnaocdfoigaa W64
open Go.ChangeMaps (open_string shut_string)
set_option linter.unusedVariables false

theorem own : ownKnob Try.prog.godebug = none := by kernel_rfl
theorem laidOut : laidOutB Try.prog = true := by kernel_rfl

theorem holdL_same (x : Int × Int) : holdL 2 [x] x = [x] := by simp [holdL]
theorem holdL_new {x y : Int × Int} (h : ¬ x = y) : holdL 2 [x] y = [x, y] := by
  have h' : y ∉ [x] := by simp; exact fun e => h e.symm
  unfold holdL
  rw [if_neg (by decide), if_neg h', if_neg (by simp)]; rfl
theorem holdL_keeps (x y : Int × Int) : x ∈ holdL 2 [x] y ∧ y ∈ holdL 2 [x] y := by
  by_cases h : x = y
  · subst h; rw [holdL_same]; simp
  · rw [holdL_new h]; simp

set_option maxHeartbeats 8000000 in
set_option maxRecDepth 100000 in
theorem walk (a0 : Int) (a1 : Int) (a2 : Int) (a3 : Int) (w : World) (w0 : (Lit.int .i64 a0).wf = true) (w1 : (Lit.int .i64 a1).wf = true) (w2 : (Lit.int .i64 a2).wf = true) (w3 : (Lit.int .i64 a3).wf = true) :
    Calls Try.prog 6 #[.int .i64 a0, .int .i64 a1, .int .i64 a2, .int .i64 a3] w fun e w' => e = .returned (.bool true) ∧ Up w w' := by
  clear w0 w1 w2 w3
  have A0 := Lib.hid (show pinB 0 = true by decide)
  have A1 := Lib.hid (show pinE 0 = 0 by decide)
  have A2 := Lib.hid (show pinD 0 = 1 by decide)
  have A3 := Lib.hid (show pinB 1 = false by decide)
  have A4 := Lib.hid (show pinE 1 = 0 by decide)
  have A5 := Lib.hid (show pinD 1 = 2 by decide)
  have U0 := Lib.hid (show unB 2 = false by decide)
  have U1 := Lib.hid (show unE 2 = 0 by decide)
  obtain ⟨L1, hL1⟩ : ∃ L1, [(a0, a1)] = L1 := ⟨_, rfl⟩
  obtain ⟨L2, hL2⟩ : ∃ L2, holdL 2 L1 (a2, a3) = L2 := ⟨_, rfl⟩
  have B0 := Lib.hid (show holdE 1 [] (a0, a1) = 0 by simp [holdE])
  have B1 := Lib.hid (show holdL 1 [] (a0, a1) = L1 by simp [holdL, hL1])
  have B2 := Lib.hid (show holdE 2 L1 (a2, a3) = 0 by simp [holdE, ← hL1])
  have B3 := Lib.hid hL2
  have B4 := Lib.hid (show L1.length = 1 by simp [← hL1])
  have C0 := Lib.hid (show decide ((a0, a1) ∈ L1) = true by simp [← hL1])
  have C1 := Lib.hid (show decide ((a0, a1) ∈ L2) = true by rw [← hL2, ← hL1]; exact decide_eq_true (holdL_keeps _ _).1)
  have C2 := Lib.hid (show decide ((a2, a3) ∈ L2) = true by rw [← hL2, ← hL1]; exact decide_eq_true (holdL_keeps _ _).2)
  have U2 := Lib.hid (show unL 2 L2 = L2 by simp [unL])
  by_cases hs : a0 = a2 ∧ a1 = a3
  · obtain ⟨rfl, rfl⟩ := hs
    have B5 := Lib.hid (show L2.length = 1 by rw [← hL2, ← hL1]; simp [holdL])
    clear hL1 hL2
    go_enter Try.func6, Try.ntmps6
    go_wp2_with (first
      | (go_at_call 7; refine (first_any _).mono ?_; rintro e wA ⟨rfl, UA⟩)
      | (go_at_call 8; refine (gnew_to _).mono ?_; rintro e w1 ⟨q, rfl, M1⟩; have HM1 := Lib.hid M1; clear M1)
      | (go_at_call 10; (with_reducible refine (gpin_to HM1.out A0.out A1.out A2.out).mono ?_); rintro e w2 ⟨rfl, F2, M2⟩; have HM2 := Lib.hid M2; clear M2)
      | (go_at_call 14; (with_reducible refine (ghold_to HM2.out B0.out B1.out).mono ?_); rintro e w3 ⟨rfl, F3, M3⟩; have HM3 := Lib.hid M3; clear M3)
      | (go_at_call 18; (with_reducible refine (gholds_to (k0 := a0) (k1 := a1) HM3.out C0.out).mono ?_); rintro e w4 ⟨rfl, M4⟩; have HM4 := Lib.hid M4; clear M4)
      | (go_at_call 18; (with_reducible refine (gholds_to HM4.out C0.out).mono ?_); rintro e w5 ⟨rfl, M5⟩; have HM5 := Lib.hid M5; clear M5)
      | (go_at_call 17; (with_reducible refine (glen_to HM5.out B4.out).mono ?_); rintro e w9 ⟨rfl, rfl⟩)
      | (go_at_call 10; (with_reducible refine (gpin_to HM5.out A3.out A4.out A5.out).mono ?_); rintro e w6 ⟨rfl, F6, M6⟩; have HM6 := Lib.hid M6; clear M6)
      | (go_at_call 14; (with_reducible refine (ghold_to HM6.out B2.out B3.out).mono ?_); rintro e w7 ⟨rfl, F7, M7⟩; have HM7 := Lib.hid M7; clear M7)
      | (go_at_call 17; (with_reducible refine (glen_to HM7.out B5.out).mono ?_); rintro e w9 ⟨rfl, rfl⟩)
      | (go_at_call 18; (with_reducible refine (gholds_to HM7.out C1.out).mono ?_); rintro e w8 ⟨rfl, M8⟩; have HM8 := Lib.hid M8; clear M8)
      | (go_at_call 12; (refine (gunpin_to (d' := 1) HM8.out U0.out U1.out rfl U2.out).mono ?_); rintro e wb ⟨rfl, F9, M9⟩; have HM9 := Lib.hid M9; clear M9)
      | (go_at_call 18; (with_reducible refine (gholds_to (k0 := a0) (k1 := a1) HM9.out C1.out).mono ?_); rintro e wc ⟨rfl, Mc⟩; have HMc := Lib.hid Mc; clear Mc)
      | (go_at_call 18; (with_reducible refine (gholds_to HMc.out C2.out).mono ?_); rintro e wa ⟨rfl, Ma⟩; have HMa := Lib.hid Ma; clear Ma)
      | (go_at_call 16; (with_reducible refine (gdepth_to HMa.out).mono ?_); rintro e w9 ⟨rfl, rfl⟩)
      | (go_at_call 17; (with_reducible refine (glen_to HMa.out B5.out).mono ?_); rintro e w9 ⟨rfl, rfl⟩))
    go_ret
    exact ⟨rfl, UA.trans HMa.out.up⟩
  · have C3 := Lib.hid (show decide ((a2, a3) ∈ L1) = false by rw [← hL1]; simp; intro h1 h2; exact hs ⟨h1.symm, h2.symm⟩)
    have B5 := Lib.hid (show L2.length = 2 by rw [← hL2, ← hL1, holdL_new (by simpa using hs)]; rfl)
    clear hL1 hL2
    by_cases h0 : a0 = a2
    · subst h0
      have n1 : (a1 == a3) = false := by simp; intro h; exact hs ⟨rfl, h⟩
      clear hs
      go_enter Try.func6, Try.ntmps6
      go_wp2_with (first
        | (go_at_call 7; refine (first_any _).mono ?_; rintro e wA ⟨rfl, UA⟩)
        | (go_at_call 8; refine (gnew_to _).mono ?_; rintro e w1 ⟨q, rfl, M1⟩; have HM1 := Lib.hid M1; clear M1)
        | (go_at_call 10; (with_reducible refine (gpin_to HM1.out A0.out A1.out A2.out).mono ?_); rintro e w2 ⟨rfl, F2, M2⟩; have HM2 := Lib.hid M2; clear M2)
        | (go_at_call 14; (with_reducible refine (ghold_to HM2.out B0.out B1.out).mono ?_); rintro e w3 ⟨rfl, F3, M3⟩; have HM3 := Lib.hid M3; clear M3)
        | (go_at_call 18; (with_reducible refine (gholds_to (k0 := a0) (k1 := a1) HM3.out C0.out).mono ?_); rintro e w4 ⟨rfl, M4⟩; have HM4 := Lib.hid M4; clear M4)
        | (go_at_call 18; (with_reducible refine (gholds_to HM4.out C3.out).mono ?_); rintro e w5 ⟨rfl, M5⟩; have HM5 := Lib.hid M5; clear M5)
        | (go_at_call 17; (with_reducible refine (glen_to HM5.out B4.out).mono ?_); rintro e w9 ⟨rfl, rfl⟩)
        | (go_at_call 10; (with_reducible refine (gpin_to HM5.out A3.out A4.out A5.out).mono ?_); rintro e w6 ⟨rfl, F6, M6⟩; have HM6 := Lib.hid M6; clear M6)
        | (go_at_call 14; (with_reducible refine (ghold_to HM6.out B2.out B3.out).mono ?_); rintro e w7 ⟨rfl, F7, M7⟩; have HM7 := Lib.hid M7; clear M7)
        | (go_at_call 17; (with_reducible refine (glen_to HM7.out B5.out).mono ?_); rintro e w9 ⟨rfl, rfl⟩)
        | (go_at_call 18; (with_reducible refine (gholds_to HM7.out C1.out).mono ?_); rintro e w8 ⟨rfl, M8⟩; have HM8 := Lib.hid M8; clear M8)
        | (go_at_call 12; (refine (gunpin_to (d' := 1) HM8.out U0.out U1.out rfl U2.out).mono ?_); rintro e wb ⟨rfl, F9, M9⟩; have HM9 := Lib.hid M9; clear M9)
        | (go_at_call 18; (with_reducible refine (gholds_to (k0 := a0) (k1 := a1) HM9.out C1.out).mono ?_); rintro e wc ⟨rfl, Mc⟩; have HMc := Lib.hid Mc; clear Mc)
        | (go_at_call 18; (with_reducible refine (gholds_to HMc.out C2.out).mono ?_); rintro e wa ⟨rfl, Ma⟩; have HMa := Lib.hid Ma; clear Ma)
        | (go_at_call 16; (with_reducible refine (gdepth_to HMa.out).mono ?_); rintro e w9 ⟨rfl, rfl⟩)
        | (go_at_call 17; (with_reducible refine (glen_to HMa.out B5.out).mono ?_); rintro e w9 ⟨rfl, rfl⟩))
      go_ret
      exact ⟨rfl, UA.trans HMa.out.up⟩
    · have n1 : (a0 == a2) = false := by simp [h0]
      clear hs h0
      go_enter Try.func6, Try.ntmps6
      go_wp2_with (first
        | (go_at_call 7; refine (first_any _).mono ?_; rintro e wA ⟨rfl, UA⟩)
        | (go_at_call 8; refine (gnew_to _).mono ?_; rintro e w1 ⟨q, rfl, M1⟩; have HM1 := Lib.hid M1; clear M1)
        | (go_at_call 10; (with_reducible refine (gpin_to HM1.out A0.out A1.out A2.out).mono ?_); rintro e w2 ⟨rfl, F2, M2⟩; have HM2 := Lib.hid M2; clear M2)
        | (go_at_call 14; (with_reducible refine (ghold_to HM2.out B0.out B1.out).mono ?_); rintro e w3 ⟨rfl, F3, M3⟩; have HM3 := Lib.hid M3; clear M3)
        | (go_at_call 18; (with_reducible refine (gholds_to (k0 := a0) (k1 := a1) HM3.out C0.out).mono ?_); rintro e w4 ⟨rfl, M4⟩; have HM4 := Lib.hid M4; clear M4)
        | (go_at_call 18; (with_reducible refine (gholds_to HM4.out C3.out).mono ?_); rintro e w5 ⟨rfl, M5⟩; have HM5 := Lib.hid M5; clear M5)
        | (go_at_call 17; (with_reducible refine (glen_to HM5.out B4.out).mono ?_); rintro e w9 ⟨rfl, rfl⟩)
        | (go_at_call 10; (with_reducible refine (gpin_to HM5.out A3.out A4.out A5.out).mono ?_); rintro e w6 ⟨rfl, F6, M6⟩; have HM6 := Lib.hid M6; clear M6)
        | (go_at_call 14; (with_reducible refine (ghold_to HM6.out B2.out B3.out).mono ?_); rintro e w7 ⟨rfl, F7, M7⟩; have HM7 := Lib.hid M7; clear M7)
        | (go_at_call 17; (with_reducible refine (glen_to HM7.out B5.out).mono ?_); rintro e w9 ⟨rfl, rfl⟩)
        | (go_at_call 18; (with_reducible refine (gholds_to HM7.out C1.out).mono ?_); rintro e w8 ⟨rfl, M8⟩; have HM8 := Lib.hid M8; clear M8)
        | (go_at_call 12; (refine (gunpin_to (d' := 1) HM8.out U0.out U1.out rfl U2.out).mono ?_); rintro e wb ⟨rfl, F9, M9⟩; have HM9 := Lib.hid M9; clear M9)
        | (go_at_call 18; (with_reducible refine (gholds_to (k0 := a0) (k1 := a1) HM9.out C1.out).mono ?_); rintro e wc ⟨rfl, Mc⟩; have HMc := Lib.hid Mc; clear Mc)
        | (go_at_call 18; (with_reducible refine (gholds_to HMc.out C2.out).mono ?_); rintro e wa ⟨rfl, Ma⟩; have HMa := Lib.hid Ma; clear Ma)
        | (go_at_call 16; (with_reducible refine (gdepth_to HMa.out).mono ?_); rintro e w9 ⟨rfl, rfl⟩)
        | (go_at_call 17; (with_reducible refine (glen_to HMa.out B5.out).mono ?_); rintro e w9 ⟨rfl, rfl⟩))
      go_ret
      exact ⟨rfl, UA.trans HMa.out.up⟩

set_option maxRecDepth 100000 in
theorem lifted (os : Os) (started : os.Started) (H : Type) (enc : TypeId × Value → H) :
    ReturnsInHanded {} Try.checked os 6 .any (Rows.gripApartSpec.pre6 enc Try.prog Try.f6 Rows.gripApartRow.domain false) (Rows.gripApartSpec.post enc Try.prog Try.f6 false true false false) := by
  refine returnsInHanded_of_change (C := Try.checked) own started (by kernel_rfl) Try.func6
    (ChangeSpec.witness6 (enc := enc) (C := Try.checked) false ⟨#[], #[.int .i64 0, .int .i64 0, .int .i64 0, .int .i64 0], []⟩ 8 (by kernel_rfl) (by kernel_rfl) (by kernel_rfl) (by kernel_rfl)) ?_
  intro W base args ds gs before hval0 hW hcnd _
  have hval : ∀ (j : Nat) t v, Try.f6.params[j]? = some t → args[j]? = some v → Value.okWide Try.prog W .any base t v := hval0
  have hW' := hW
  obtain ⟨p, q, hA0, hV, rfl, hfz, hnd⟩ := hW
  have hA : DataW.TrodAll enc Try.prog W 0 (fun _ => true) true Try.f6.params.toList args.toList ds p := hA0
  rw [Try.params6] at hA hval
  obtain ⟨v0, vs0, d0, ds0, p0, q0, hargs, rfl, rfl, h0, r0⟩ := trodAll_cons hA
  obtain ⟨v1, vs1, d1, ds1, p1, q1, rfl, rfl, rfl, h1, r1⟩ := trodAll_cons r0
  obtain ⟨v2, vs2, d2, ds2, p2, q2, rfl, rfl, rfl, h2, r2⟩ := trodAll_cons r1
  obtain ⟨v3, vs3, d3, ds3, p3, q3, rfl, rfl, rfl, h3, r3⟩ := trodAll_cons r2
  obtain ⟨rfl, rfl, rfl⟩ := trodAll_nil r3
  obtain rfl : args = #[v0, v1, v2, v3] := by cases args; simp_all
  obtain ⟨rfl, rfl⟩ := trodVars_none hV
  have k0 := h0
  have lt0 : ∀ x ∈ p0, x.block < W.heap.size := by obtain ⟨m, hm⟩ := k0; exact DataW.trod_lt m _ _ _ hm
  obtain ⟨a0, rfl, rfl, rfl, w0⟩ := open_int Try.underlying3 (hval 0 3 v0 rfl rfl) h0
  have k1 := h1
  have lt1 : ∀ x ∈ p1, x.block < W.heap.size := by obtain ⟨m, hm⟩ := k1; exact DataW.trod_lt m _ _ _ hm
  obtain ⟨a1, rfl, rfl, rfl, w1⟩ := open_int Try.underlying3 (hval 1 3 v1 rfl rfl) h1
  have k2 := h2
  have lt2 : ∀ x ∈ p2, x.block < W.heap.size := by obtain ⟨m, hm⟩ := k2; exact DataW.trod_lt m _ _ _ hm
  obtain ⟨a2, rfl, rfl, rfl, w2⟩ := open_int Try.underlying3 (hval 2 3 v2 rfl rfl) h2
  have k3 := h3
  have lt3 : ∀ x ∈ p3, x.block < W.heap.size := by obtain ⟨m, hm⟩ := k3; exact DataW.trod_lt m _ _ _ hm
  obtain ⟨a3, rfl, rfl, rfl, w3⟩ := open_int Try.underlying3 (hval 3 3 v3 rfl rfl) h3
  clear hA0 hval0
  refine (walk a0 a1 a2 a3 W w0 w1 w2 w3).mono fun e W' ⟨he, bel⟩ => ?_
  subst he
  exact ⟨_, rfl, _, _, _, [], _, [], hW', trodAll_mk1 (shut_bool Try.underlying4 _), (trodAll_cons_mk (Below.trod laidOut (by kernel_rfl) (of_decide_eq_true (by kernel_rfl)) k0 bel lt0) (trodAll_cons_mk (Below.trod laidOut (by kernel_rfl) (of_decide_eq_true (by kernel_rfl)) k1 bel lt1) (trodAll_cons_mk (Below.trod laidOut (by kernel_rfl) (of_decide_eq_true (by kernel_rfl)) k2 bel lt2) (trodAll_cons_mk (Below.trod laidOut (by kernel_rfl) (of_decide_eq_true (by kernel_rfl)) k3 bel lt3) trodAll_mk0)))), rfl, Below.frame bel _, fun h => by cases h⟩

theorem over : Rows.gripApartRow.holds Try.pinned (OpenSpec.ofChange Rows.gripApartSpec) :=
  OpenClaim.holds_of_wide 6 Try.f6 rfl rfl rfl rfl rfl rfl rfl ⟨rfl, rfl, rfl, rfl, rfl⟩ rfl rfl rfl rfl rfl (by kernel_rfl) Try.func6 (by kernel_rfl)
    (of_decide_eq_true (by kernel_rfl)) (by unfold Func.isWrapper; first | (rw [if_pos (by decide +kernel)]; kernel_rfl) | (rw [if_neg (by decide +kernel)]; exact ⟨rfl, rfl⟩))
    (fun os started H enc _ => lifted os started H enc)

/-- THE STATEMENT -/
theorem proved : Rows.GripApartSaid := over
#print axioms proved
end Go.Proofs.Ytkfmnaocdfoigaa.gripApart
