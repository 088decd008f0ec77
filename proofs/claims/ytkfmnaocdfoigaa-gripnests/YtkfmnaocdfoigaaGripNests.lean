/-
  GripNests of layer 10: as many pins as may be, one in another; the first tells so, and the last unpin; one more, and one fewer, are refused; for every number.
-/
import Derived.Test.YtkfmnaocdfoigaaRows
import Derived.Test.YtkfmnaocdfoigaaGripLaws
import Derived.WalkKit
import Derived.ProofKit
import Derived.OpenShut
import Derived.ShutString
import Derived.ChangeOld
import Derived.Below
import Derived.Carry
import Derived.Lib.SmallJoins
import Derived.BigQuiet
namespace Go.Proofs.Ytkfmnaocdfoigaa.gripNests
open Go.ChangeShapes Go.WideShapes Go.ChangeAt Go.RowKit Go.Joins Go.Proofs.Ytkfmnaocdfoigaa W64
open Go.ChangeMaps (open_string shut_string)
set_option linter.unusedVariables false

theorem own : ownKnob Try.prog.godebug = none := by kernel_rfl
theorem laidOut : laidOutB Try.prog = true := by kernel_rfl

theorem pinB_pos {i : Nat} (h : i ≠ 0) : pinB i = false := by simp [pinB, h]
theorem pinE_lt {i : Nat} (h : i < 15) : pinE i = 0 := by unfold pinE; rw [if_neg (by omega)]
theorem pinD_lt {i : Nat} (h : i < 15) : pinD i = i + 1 := by unfold pinD; rw [if_neg (by omega)]
theorem unE_pos {i : Nat} (h : i ≠ 0) : unE i = 0 := by unfold unE; rw [if_neg h]
theorem unB_ne {i : Nat} (h : i ≠ 1) : unB i = false := by simp [unB, h]
theorem unL_ne {i : Nat} (h : i ≠ 1) (L : List (Int × Int)) : unL i L = L := by simp [unL, h]
def NestL (j : Nat) : List (Int × Int) := if j = 0 then [] else [(3, 4)]
def NestUp (W : World) (q k : Nat) (i : Value) (w : World) : Prop := ∃ (j : Nat) (F : List Nat), i = .int .i64 j ∧ j ≤ k ∧ GMine 44 46 W w q j [] F
def NestDown (W : World) (q k : Nat) (i : Value) (w : World) : Prop := ∃ (j : Nat) (F : List Nat), i = .int .i64 j ∧ j ≤ k ∧ GMine 44 46 W w q j (NestL j) F
theorem nest_hold {j : Nat} (h0 : j ≠ 0) : holdL j [] (3, 4) = NestL j := by simp [holdL, NestL, h0]

set_option maxHeartbeats 8000000 in
set_option maxRecDepth 100000 in
theorem walk (a0 : Int) (w : World) (w0 : (Lit.int .i64 a0).wf = true) :
    Calls Try.prog 4 #[.int .i64 a0] w fun e w' => e = .returned (.bool true) ∧ Up w w' := by
  clear w0
  obtain ⟨y, hy, _, y0, y1⟩ := emod_letter a0 15 (by decide)
  obtain ⟨k', rfl⟩ : ∃ t : Nat, y = t := ⟨y.toNat, by omega⟩
  have HY := Lib.hid hy
  obtain ⟨k, hk⟩ : ∃ k, k = k' + 1 := ⟨_, rfl⟩
  have k1 : 1 ≤ k := by omega
  have k2 : k ≤ 15 := by omega
  have HE := Lib.hid (show 1 + (k' : Int) = (k : Int) by omega)
  clear hy hk
  go_enter Try.func4, Try.ntmps4
  go_wp2_with (first
    | (go_at_call 7; refine (first_any _).mono ?_; rintro e wA ⟨rfl, UA⟩)
    | (go_at_call 9; (with_reducible refine (number_is HY.out (by decide) (by decide) _).mono ?_); rintro e w' ⟨rfl, rfl⟩)
    | (go_at_call 8; refine (gnew_to _).mono ?_; rintro e w1 ⟨q, rfl, M1⟩; have HM1 := Lib.hid M1; clear M1))
  have HUA := Lib.hid UA
  rw [HE.out]
  clear UA y0 y1
  go_loopw [6] (fun i wr => NestUp wA q k i wr) (fun i _ => k - (intOf i).toNat)
  case atStart => exact ⟨0, _, rfl, Nat.zero_le _, HM1.out⟩
  case round =>
    obtain ⟨j, F, rfl, hj, M⟩ := hrel
    have HM := Lib.hid M
    clear M
    have i0 : (0 : Int) ≤ (j : Int) := Int.natCast_nonneg _
    by_cases hlt : j < k
    · have i1 : (j : Int) < (k : Int) := by omega
      have H2 := Lib.hid (pinE_lt (i := j) (by omega))
      have H3 := Lib.hid (pinD_lt (i := j) (by omega))
      by_cases hj0 : j = 0
      · subst hj0
        have H1 := Lib.hid (show pinB 0 = true by decide)
        go_wp2_with (first
          | (go_at_call 10; (with_reducible refine (gpin_to HM.out H1.out H2.out H3.out).mono ?_); rintro e w2 ⟨rfl, F2, M2⟩; have HM2 := Lib.hid M2; clear M2)
          | (go_at_call 16; (with_reducible refine (gdepth_to HM2.out).mono ?_); rintro e w9 ⟨rfl, rfl⟩))
        go_roundw
        case rel => exact ⟨0 + 1, _, by go_num, by omega, HM2.out⟩
        case measure => simp [intOf]; omega
      · have H1 := Lib.hid (pinB_pos hj0)
        have n0 : ((j : Int) == 0) = false := by simp; omega
        go_wp2_with (first
          | (go_at_call 10; (with_reducible refine (gpin_to HM.out H1.out H2.out H3.out).mono ?_); rintro e w2 ⟨rfl, F2, M2⟩; have HM2 := Lib.hid M2; clear M2)
          | (go_at_call 16; (with_reducible refine (gdepth_to HM2.out).mono ?_); rintro e w9 ⟨rfl, rfl⟩))
        go_roundw
        case rel => exact ⟨j + 1, _, by go_num, by omega, HM2.out⟩
        case measure => simp [intOf]; omega
    · have i1 : ¬ (j : Int) < (k : Int) := by omega
      obtain rfl : j = k := by omega
      have B0 := Lib.hid (show holdE j [] (3, 4) = 0 by unfold holdE; rw [if_neg (by omega)]; simp)
      have B1 := Lib.hid (nest_hold (j := j) (by omega))
      by_cases h15 : j = 15
      · subst h15
        have A0 := Lib.hid (show pinB 15 = false by decide)
        have A1 := Lib.hid (show pinE 15 = 8 by decide)
        have A2 := Lib.hid (show pinD 15 = 15 by decide)
        go_wp2_with (first
          | (go_at_call 10; (with_reducible refine (gpin_to HM.out A0.out A1.out A2.out).mono ?_); rintro e w2 ⟨rfl, F2, M2⟩; have HM2 := Lib.hid M2; clear M2)
          | (go_at_call 16; (with_reducible refine (gdepth_to HM2.out).mono ?_); rintro e w9 ⟨rfl, rfl⟩)
          | (go_at_call 14; (with_reducible refine (ghold_to HM2.out B0.out B1.out).mono ?_); rintro e w3 ⟨rfl, F3, M3⟩; have HM3 := Lib.hid M3; clear M3))
        go_loopw [11] (fun i wr => NestDown wA q 15 i wr) (fun i _ => (intOf i).toNat)
        case atStart => exact ⟨15, _, rfl, Nat.le_refl _, HM3.out⟩
        case round =>
          obtain ⟨i, F, rfl, hi, M⟩ := hrel
          have HM := Lib.hid M
          clear M
          have i0 : (0 : Int) ≤ (i : Int) := Int.natCast_nonneg _
          by_cases h0 : i = 0
          · subst h0
            have E0 := Lib.hid (show unB 0 = false by decide)
            have E1 := Lib.hid (show unE 0 = 4 by decide)
            have E2 := Lib.hid (show NestL 0 = [] by decide)
            have E3 := Lib.hid (show unL 0 [] = [] by decide)
            have E4 := Lib.hid (show decide (((3 : Int), (4 : Int)) ∈ ([] : List (Int × Int))) = false by decide)
            have E5 := Lib.hid (show holdE 0 [] (3, 4) = 4 by decide)
            have E6 := Lib.hid (show holdL 0 [] (3, 4) = [] by decide)
            rw [E2.out] at HM
            go_wp2_with (first
              | (go_at_call 12; (refine (gunpin_to (d' := 0) HM.out E0.out E1.out rfl E3.out).mono ?_); rintro e w5 ⟨rfl, F5, M5⟩; have HM5 := Lib.hid M5; clear M5)
              | (go_at_call 18; (with_reducible refine (gholds_to HM5.out E4.out).mono ?_); rintro e w6 ⟨rfl, M6⟩; have HM6 := Lib.hid M6; clear M6)
              | (go_at_call 17; (refine (glen_to (n := 0) HM6.out rfl).mono ?_); rintro e w9 ⟨rfl, rfl⟩)
              | (go_at_call 14; (with_reducible refine (ghold_to HM6.out E5.out E6.out).mono ?_); rintro e w7 ⟨rfl, F7, M7⟩; have HM7 := Lib.hid M7; clear M7))
            go_ret
            exact ⟨rfl, HUA.out.trans HM7.out.up⟩
          · have i1 : (0 : Int) < (i : Int) := by omega
            have H2 := Lib.hid (unE_pos h0)
            obtain ⟨i', hi'⟩ : ∃ i', i - 1 = i' := ⟨_, rfl⟩
            have HI := Lib.hid hi'
            have H4 := Lib.hid (show (i : Int) - 1 = (i' : Int) by omega)
            have E4 := Lib.hid (show decide (((3 : Int), (4 : Int)) ∈ NestL i) = true by simp [NestL, h0])
            by_cases h1 : i = 1
            · subst h1
              obtain rfl : i' = 0 := by omega
              have E0 := Lib.hid (show unB 1 = true by decide)
              have E3 := Lib.hid (show unL 1 (NestL 1) = NestL 0 by decide)
              clear hi' H4
              go_wp2_with (first
                | (go_at_call 18; (with_reducible refine (gholds_to HM.out E4.out).mono ?_); rintro e w6 ⟨rfl, M6⟩; have HM6 := Lib.hid M6; clear M6)
                | (go_at_call 12; (refine (gunpin_to (d' := 0) HM6.out E0.out H2.out rfl E3.out).mono ?_); rintro e w5 ⟨rfl, F5, M5⟩; have HM5 := Lib.hid M5; clear M5)
                | (go_at_call 16; (with_reducible refine (gdepth_to HM5.out).mono ?_); rintro e w9 ⟨rfl, rfl⟩))
              go_roundw
              case rel => exact ⟨0, _, by go_num, by omega, HM5.out⟩
              case measure => simp [intOf]
            · have E0 := Lib.hid (unB_ne h1)
              have E3 := Lib.hid (show unL i (NestL i) = NestL i' by rw [unL_ne h1]; unfold NestL; rw [if_neg h0, if_neg (by omega)])
              have n1 : ((i : Int) == 1) = false := by simp; omega
              have h5 : (i' : Int) = (i : Int) - 1 := by omega
              clear hi'
              go_wp2_with (first
                | (go_at_call 18; (with_reducible refine (gholds_to HM.out E4.out).mono ?_); rintro e w6 ⟨rfl, M6⟩; have HM6 := Lib.hid M6; clear M6)
                | (go_at_call 12; (with_reducible refine (gunpin_to HM6.out E0.out H2.out HI.out E3.out).mono ?_); rintro e w5 ⟨rfl, F5, M5⟩; have HM5 := Lib.hid M5; clear M5)
                | (go_at_call 16; (with_reducible refine (gdepth_to HM5.out).mono ?_); rintro e w9 ⟨rfl, rfl⟩))
              go_roundw
              case rel => exact ⟨i', _, by rw [h5], by omega, HM5.out⟩
              case measure => simp [intOf]; omega
      · have n15 : ((j : Int) == 15) = false := by simp; omega
        go_wp2_with (first
          | (go_at_call 14; (with_reducible refine (ghold_to HM.out B0.out B1.out).mono ?_); rintro e w3 ⟨rfl, F3, M3⟩; have HM3 := Lib.hid M3; clear M3))
        go_loopw [11] (fun i wr => NestDown wA q j i wr) (fun i _ => (intOf i).toNat)
        case atStart => exact ⟨j, _, rfl, Nat.le_refl _, HM3.out⟩
        case round =>
          obtain ⟨i, F, rfl, hi, M⟩ := hrel
          have HM := Lib.hid M
          clear M
          have i0 : (0 : Int) ≤ (i : Int) := Int.natCast_nonneg _
          by_cases h0 : i = 0
          · subst h0
            have E0 := Lib.hid (show unB 0 = false by decide)
            have E1 := Lib.hid (show unE 0 = 4 by decide)
            have E2 := Lib.hid (show NestL 0 = [] by decide)
            have E3 := Lib.hid (show unL 0 [] = [] by decide)
            have E4 := Lib.hid (show decide (((3 : Int), (4 : Int)) ∈ ([] : List (Int × Int))) = false by decide)
            have E5 := Lib.hid (show holdE 0 [] (3, 4) = 4 by decide)
            have E6 := Lib.hid (show holdL 0 [] (3, 4) = [] by decide)
            rw [E2.out] at HM
            go_wp2_with (first
              | (go_at_call 12; (refine (gunpin_to (d' := 0) HM.out E0.out E1.out rfl E3.out).mono ?_); rintro e w5 ⟨rfl, F5, M5⟩; have HM5 := Lib.hid M5; clear M5)
              | (go_at_call 18; (with_reducible refine (gholds_to HM5.out E4.out).mono ?_); rintro e w6 ⟨rfl, M6⟩; have HM6 := Lib.hid M6; clear M6)
              | (go_at_call 17; (refine (glen_to (n := 0) HM6.out rfl).mono ?_); rintro e w9 ⟨rfl, rfl⟩)
              | (go_at_call 14; (with_reducible refine (ghold_to HM6.out E5.out E6.out).mono ?_); rintro e w7 ⟨rfl, F7, M7⟩; have HM7 := Lib.hid M7; clear M7))
            go_ret
            exact ⟨rfl, HUA.out.trans HM7.out.up⟩
          · have i1 : (0 : Int) < (i : Int) := by omega
            have H2 := Lib.hid (unE_pos h0)
            obtain ⟨i', hi'⟩ : ∃ i', i - 1 = i' := ⟨_, rfl⟩
            have HI := Lib.hid hi'
            have H4 := Lib.hid (show (i : Int) - 1 = (i' : Int) by omega)
            have E4 := Lib.hid (show decide (((3 : Int), (4 : Int)) ∈ NestL i) = true by simp [NestL, h0])
            by_cases h1 : i = 1
            · subst h1
              obtain rfl : i' = 0 := by omega
              have E0 := Lib.hid (show unB 1 = true by decide)
              have E3 := Lib.hid (show unL 1 (NestL 1) = NestL 0 by decide)
              clear hi' H4
              go_wp2_with (first
                | (go_at_call 18; (with_reducible refine (gholds_to HM.out E4.out).mono ?_); rintro e w6 ⟨rfl, M6⟩; have HM6 := Lib.hid M6; clear M6)
                | (go_at_call 12; (refine (gunpin_to (d' := 0) HM6.out E0.out H2.out rfl E3.out).mono ?_); rintro e w5 ⟨rfl, F5, M5⟩; have HM5 := Lib.hid M5; clear M5)
                | (go_at_call 16; (with_reducible refine (gdepth_to HM5.out).mono ?_); rintro e w9 ⟨rfl, rfl⟩))
              go_roundw
              case rel => exact ⟨0, _, by go_num, by omega, HM5.out⟩
              case measure => simp [intOf]
            · have E0 := Lib.hid (unB_ne h1)
              have E3 := Lib.hid (show unL i (NestL i) = NestL i' by rw [unL_ne h1]; unfold NestL; rw [if_neg h0, if_neg (by omega)])
              have n1 : ((i : Int) == 1) = false := by simp; omega
              have h5 : (i' : Int) = (i : Int) - 1 := by omega
              clear hi'
              go_wp2_with (first
                | (go_at_call 18; (with_reducible refine (gholds_to HM.out E4.out).mono ?_); rintro e w6 ⟨rfl, M6⟩; have HM6 := Lib.hid M6; clear M6)
                | (go_at_call 12; (with_reducible refine (gunpin_to HM6.out E0.out H2.out HI.out E3.out).mono ?_); rintro e w5 ⟨rfl, F5, M5⟩; have HM5 := Lib.hid M5; clear M5)
                | (go_at_call 16; (with_reducible refine (gdepth_to HM5.out).mono ?_); rintro e w9 ⟨rfl, rfl⟩))
              go_roundw
              case rel => exact ⟨i', _, by rw [h5], by omega, HM5.out⟩
              case measure => simp [intOf]; omega

set_option maxRecDepth 100000 in
theorem lifted (os : Os) (started : os.Started) (H : Type) (enc : TypeId × Value → H) :
    ReturnsInHanded {} Try.checked os 4 .any (Rows.gripNestsSpec.pre6 enc Try.prog Try.f4 Rows.gripNestsRow.domain false) (Rows.gripNestsSpec.post enc Try.prog Try.f4 false true false false) := by
  refine returnsInHanded_of_change (C := Try.checked) own started (by kernel_rfl) Try.func4
    (ChangeSpec.witness6 (enc := enc) (C := Try.checked) false ⟨#[], #[.int .i64 0], []⟩ 8 (by kernel_rfl) (by kernel_rfl) (by kernel_rfl) (by kernel_rfl)) ?_
  intro W base args ds gs before hval0 hW hcnd _
  have hval : ∀ (j : Nat) t v, Try.f4.params[j]? = some t → args[j]? = some v → Value.okWide Try.prog W .any base t v := hval0
  have hW' := hW
  obtain ⟨p, q, hA0, hV, rfl, hfz, hnd⟩ := hW
  have hA : DataW.TrodAll enc Try.prog W 0 (fun _ => true) true Try.f4.params.toList args.toList ds p := hA0
  rw [Try.params4] at hA hval
  obtain ⟨v0, vs0, d0, ds0, p0, q0, hargs, rfl, rfl, h0, r0⟩ := trodAll_cons hA
  obtain ⟨rfl, rfl, rfl⟩ := trodAll_nil r0
  obtain rfl : args = #[v0] := by cases args; simp_all
  obtain ⟨rfl, rfl⟩ := trodVars_none hV
  have k0 := h0
  have lt0 : ∀ x ∈ p0, x.block < W.heap.size := by obtain ⟨m, hm⟩ := k0; exact DataW.trod_lt m _ _ _ hm
  obtain ⟨a0, rfl, rfl, rfl, w0⟩ := open_int Try.underlying3 (hval 0 3 v0 rfl rfl) h0
  clear hA0 hval0
  refine (walk a0 W w0).mono fun e W' ⟨he, bel⟩ => ?_
  subst he
  exact ⟨_, rfl, _, _, _, [], _, [], hW', trodAll_mk1 (shut_bool Try.underlying4 _), (trodAll_cons_mk (Below.trod laidOut (by kernel_rfl) (of_decide_eq_true (by kernel_rfl)) k0 bel lt0) trodAll_mk0), rfl, Below.frame bel _, fun h => by cases h⟩

theorem over : Rows.gripNestsRow.holds Try.pinned (OpenSpec.ofChange Rows.gripNestsSpec) :=
  OpenClaim.holds_of_wide 4 Try.f4 rfl rfl rfl rfl rfl rfl rfl ⟨rfl, rfl, rfl, rfl, rfl⟩ rfl rfl rfl rfl rfl (by kernel_rfl) Try.func4 (by kernel_rfl)
    (of_decide_eq_true (by kernel_rfl)) (by unfold Func.isWrapper; first | (rw [if_pos (by decide +kernel)]; kernel_rfl) | (rw [if_neg (by decide +kernel)]; exact ⟨rfl, rfl⟩))
    (fun os started H enc _ => lifted os started H enc)

/-- THE STATEMENT -/
theorem proved : Rows.GripNestsSaid := over
#print axioms proved
end Go.Proofs.Ytkfmnaocdfoigaa.gripNests
