/-
  GripFull of layer 10: as many regions as a pin holds; the same again is nothing more; another one is refused, till all is let go; for all numbers.
-/
import Derived.Test.YtkfmnaocdfoigaaRows
import Derived.Test.YtkfmnaocdfoigaaGripLaws
import Derived.WalkKit
import Derived.ProofKit
import Derived.OpenShut
import Derived.ShutString
import Derived.ChangeOld
import Derived.Below
import Derived.Carry
import Derived.Lib.SmallJoins
import Derived.BigQuiet
namespace Go.Proofs.Ytkfmnaocdfoigaa.gripFull
open Go.ChangeShapes Go.WideShapes Go.ChangeAt Go.RowKit Go.Joins Go.Proofs.Ytkfmnaocdfoigaa W64
open Go.ChangeMaps (open_string shut_string)
set_option linter.unusedVariables false

theorem own : ownKnob Try.prog.godebug = none := by kernel_rfl
theorem laidOut : laidOutB Try.prog = true := by kernel_rfl

def pairOf (s b : Int) (j : Nat) : Int × Int := (s + ((j / 2 : Nat) : Int), b + ((j % 2 : Nat) : Int))
def fulL (s b : Int) (j : Nat) : List (Int × Int) := (List.range j).map (pairOf s b)
theorem pairOf_inj {s b : Int} {i j : Nat} (h : pairOf s b i = pairOf s b j) : i = j := by
  simp only [pairOf, Prod.mk.injEq] at h
  omega
theorem fulL_len (s b : Int) (j : Nat) : (fulL s b j).length = j := by simp [fulL]
theorem fulL_succ (s b : Int) (j : Nat) : fulL s b j ++ [pairOf s b j] = fulL s b (j + 1) := by simp [fulL, List.range_succ]
theorem fulL_not (s b : Int) (j : Nat) : pairOf s b j ∉ fulL s b j := by
  intro h
  simp only [fulL, List.mem_map, List.mem_range] at h
  obtain ⟨i, hi, e⟩ := h
  have := pairOf_inj e
  omega
theorem fulL_in (s b : Int) {i j : Nat} (h : i < j) : pairOf s b i ∈ fulL s b j := by
  simp only [fulL, List.mem_map, List.mem_range]
  exact ⟨i, h, rfl⟩
theorem fulL_off (s b : Int) (j : Nat) : (s, b + 2) ∉ fulL s b j := by
  intro h
  simp only [fulL, List.mem_map, List.mem_range, pairOf, Prod.mk.injEq] at h
  obtain ⟨i, hi, e1, e2⟩ := h
  omega
theorem ful_holdE (s b : Int) {j : Nat} (h : j < 8) : holdE 1 (fulL s b j) (pairOf s b j) = 0 := by
  unfold holdE
  rw [if_neg (by decide), if_neg (fulL_not s b j), if_neg (by rw [fulL_len]; omega)]
theorem ful_holdL (s b : Int) {j : Nat} (h : j < 8) : holdL 1 (fulL s b j) (pairOf s b j) = fulL s b (j + 1) := by
  unfold holdL
  rw [if_neg (by decide), if_neg (fulL_not s b j), if_neg (by rw [fulL_len]; omega), fulL_succ]
theorem ful_again (s b : Int) {j : Nat} (h : j < 8) : holdE 1 (fulL s b 8) (pairOf s b j) = 0 ∧ holdL 1 (fulL s b 8) (pairOf s b j) = fulL s b 8 := by
  unfold holdE holdL
  rw [if_neg (by decide), if_pos (fulL_in s b h), if_neg (by decide), if_pos (fulL_in s b h)]
  exact ⟨rfl, rfl⟩
theorem ful_over (s b : Int) : holdE 1 (fulL s b 8) (s, b + 2) = 8 ∧ holdL 1 (fulL s b 8) (s, b + 2) = fulL s b 8 := by
  unfold holdE holdL
  rw [if_neg (by decide), if_neg (fulL_off s b 8), if_pos (fulL_len s b 8), if_neg (by decide), if_neg (fulL_off s b 8), if_pos (fulL_len s b 8)]
  exact ⟨rfl, rfl⟩
def FulRel (W : World) (q : Nat) (s b : Int) (i : Value) (w : World) : Prop := ∃ (j : Nat) (F : List Nat), i = .int .i64 j ∧ j ≤ 8 ∧ GMine 44 46 W w q 1 (fulL s b j) F
theorem div_half (j : Nat) : (j : Int).tdiv 2 = ((j / 2 : Nat) : Int) := by rw [Int.tdiv_eq_ediv_of_nonneg (by omega)]; omega
theorem mod_half (j : Nat) : (j : Int).tmod 2 = ((j % 2 : Nat) : Int) := by rw [Int.tmod_eq_emod_of_nonneg (by omega)]; omega

set_option maxHeartbeats 8000000 in
set_option maxRecDepth 100000 in
theorem walk (a0 : Int) (a1 : Int) (a2 : Int) (w : World) (w0 : (Lit.int .i64 a0).wf = true) (w1 : (Lit.int .i64 a1).wf = true) (w2 : (Lit.int .i64 a2).wf = true) :
    Calls Try.prog 5 #[.int .i64 a0, .int .i64 a1, .int .i64 a2] w fun e w' => e = .returned (.bool true) ∧ Up w w' := by
  clear w0 w1 w2
  obtain ⟨s, hs, _, s0, s1⟩ := emod_letter a0 1000 (by decide)
  obtain ⟨b, hb, _, b0, b1⟩ := emod_letter a1 1000 (by decide)
  obtain ⟨x, hx, _, x0, x1⟩ := emod_letter a2 8 (by decide)
  obtain ⟨k, rfl⟩ : ∃ t : Nat, x = t := ⟨x.toNat, by omega⟩
  have HS := Lib.hid hs
  have HB := Lib.hid hb
  have HX := Lib.hid hx
  clear hs hb hx
  have A0 := Lib.hid (show pinB 0 = true by decide)
  have A1 := Lib.hid (show pinE 0 = 0 by decide)
  have A2 := Lib.hid (show pinD 0 = 1 by decide)
  go_enter Try.func5, Try.ntmps5
  go_wp2_with (first
    | (go_at_call 7; refine (first_any _).mono ?_; rintro e wA ⟨rfl, UA⟩)
    | (go_at_call 9; (with_reducible refine (number_is HS.out (by decide) (by decide) _).mono ?_); rintro e w' ⟨rfl, rfl⟩)
    | (go_at_call 9; (with_reducible refine (number_is HB.out (by decide) (by decide) _).mono ?_); rintro e w' ⟨rfl, rfl⟩)
    | (go_at_call 8; refine (gnew_to _).mono ?_; rintro e w1 ⟨q, rfl, M1⟩; have HM1 := Lib.hid M1; clear M1)
    | (go_at_call 10; (with_reducible refine (gpin_to HM1.out A0.out A1.out A2.out).mono ?_); rintro e w2 ⟨rfl, F2, M2⟩; have HM2 := Lib.hid M2; clear M2))
  have HUA := Lib.hid UA
  clear UA
  go_loopw [11] (fun i wr => FulRel wA q s b i wr) (fun i _ => 8 - (intOf i).toNat)
  case atStart => exact ⟨0, _, rfl, Nat.zero_le _, HM2.out⟩
  case round =>
    obtain ⟨j, F, rfl, hj, M⟩ := hrel
    have HM := Lib.hid M
    clear M
    have i0 : (0 : Int) ≤ (j : Int) := Int.natCast_nonneg _
    by_cases hlt : j < 8
    · have i1 : (j : Int) < 8 := by omega
      obtain ⟨h, hh⟩ : ∃ h, j / 2 = h := ⟨_, rfl⟩
      obtain ⟨m, hm⟩ : ∃ m, j % 2 = m := ⟨_, rfl⟩
      have H1 := Lib.hid (ful_holdE s b hlt)
      have H2 := Lib.hid (ful_holdL s b hlt)
      have H3 := Lib.hid (fulL_len s b (j + 1))
      have d1 := div_half j
      have d2 := mod_half j
      simp only [pairOf] at H1 H2
      rw [hh] at H1 H2 d1
      rw [hm] at H1 H2 d2
      have h0 : (0 : Int) ≤ (h : Int) := Int.natCast_nonneg _
      have h1 : (h : Int) ≤ 4 := by omega
      have m0 : (0 : Int) ≤ (m : Int) := Int.natCast_nonneg _
      have m1 : (m : Int) ≤ 1 := by omega
      clear hh hm
      go_wp2_with (first
        | (go_at_call 14; (with_reducible refine (ghold_to HM.out H1.out H2.out).mono ?_); rintro e w3 ⟨rfl, F3, M3⟩; have HM3 := Lib.hid M3; clear M3)
        | (go_at_call 17; (with_reducible refine (glen_to HM3.out H3.out).mono ?_); rintro e w9 ⟨rfl, rfl⟩))
      go_roundw
      case rel => exact ⟨j + 1, _, by go_num, by omega, HM3.out⟩
      case measure => simp [intOf]; omega
    · have i1 : ¬ (j : Int) < 8 := by omega
      obtain rfl : j = 8 := by omega
      obtain ⟨h, hh⟩ : ∃ h, k / 2 = h := ⟨_, rfl⟩
      obtain ⟨m, hm⟩ : ∃ m, k % 2 = m := ⟨_, rfl⟩
      have H1 := Lib.hid (ful_again s b (j := k) (by omega)).1
      have H2 := Lib.hid (ful_again s b (j := k) (by omega)).2
      have H3 := Lib.hid (fulL_len s b 8)
      have d1 := div_half k
      have d2 := mod_half k
      simp only [pairOf] at H1 H2
      rw [hh] at H1 H2 d1
      rw [hm] at H1 H2 d2
      have h0 : (0 : Int) ≤ (h : Int) := Int.natCast_nonneg _
      have h1 : (h : Int) ≤ 4 := by omega
      have m0 : (0 : Int) ≤ (m : Int) := Int.natCast_nonneg _
      have m1 : (m : Int) ≤ 1 := by omega
      clear hh hm
      have K1 := Lib.hid (ful_over s b).1
      have K2 := Lib.hid (ful_over s b).2
      have K3 := Lib.hid (show decide ((s, b + 2) ∈ fulL s b 8) = false by simp [fulL_off s b 8])
      have K4 := Lib.hid (show unB 1 = true by decide)
      have K5 := Lib.hid (show unE 1 = 0 by decide)
      have K6 := Lib.hid (show unL 1 (fulL s b 8) = [] by simp [unL])
      obtain ⟨N, hN⟩ : ∃ N, [(s, b + 2)] = N := ⟨_, rfl⟩
      have K7 := Lib.hid (show holdE 1 [] (s, b + 2) = 0 by simp [holdE])
      have K8 := Lib.hid (show holdL 1 [] (s, b + 2) = N by rw [← hN]; simp [holdL])
      have K9 := Lib.hid (show N.length = 1 by rw [← hN]; rfl)
      have KA := Lib.hid (show decide ((s, b) ∈ N) = false by rw [← hN]; simp; omega)
      clear hN
      go_wp2_with (first
        | (go_at_call 9; (with_reducible refine (number_is HX.out (by decide) (by decide) _).mono ?_); rintro e w' ⟨rfl, rfl⟩)
        | (go_at_call 14; (with_reducible refine (ghold_to HM.out H1.out H2.out).mono ?_); rintro e w3 ⟨rfl, F3, M3⟩; have HM3 := Lib.hid M3; clear M3)
        | (go_at_call 17; (with_reducible refine (glen_to HM3.out H3.out).mono ?_); rintro e w9 ⟨rfl, rfl⟩)
        | (go_at_call 14; (with_reducible refine (ghold_to HM3.out K1.out K2.out).mono ?_); rintro e w4 ⟨rfl, F4, M4⟩; have HM4 := Lib.hid M4; clear M4)
        | (go_at_call 18; (with_reducible refine (gholds_to HM4.out K3.out).mono ?_); rintro e w5 ⟨rfl, M5⟩; have HM5 := Lib.hid M5; clear M5)
        | (go_at_call 12; (refine (gunpin_to (d' := 0) HM5.out K4.out K5.out rfl K6.out).mono ?_); rintro e w6 ⟨rfl, F6, M6⟩; have HM6 := Lib.hid M6; clear M6)
        | (go_at_call 10; (with_reducible refine (gpin_to HM6.out A0.out A1.out A2.out).mono ?_); rintro e w7 ⟨rfl, F7, M7⟩; have HM7 := Lib.hid M7; clear M7)
        | (go_at_call 17; (refine (glen_to (n := 0) HM7.out rfl).mono ?_); rintro e w9 ⟨rfl, rfl⟩)
        | (go_at_call 14; (with_reducible refine (ghold_to HM7.out K7.out K8.out).mono ?_); rintro e w8 ⟨rfl, F8, M8⟩; have HM8 := Lib.hid M8; clear M8)
        | (go_at_call 17; (with_reducible refine (glen_to HM8.out K9.out).mono ?_); rintro e w9 ⟨rfl, rfl⟩)
        | (go_at_call 18; (with_reducible refine (gholds_to HM8.out KA.out).mono ?_); rintro e wa ⟨rfl, Ma⟩; have HMa := Lib.hid Ma; clear Ma))
      go_ret
      exact ⟨rfl, HUA.out.trans HMa.out.up⟩

set_option maxRecDepth 100000 in
theorem lifted (os : Os) (started : os.Started) (H : Type) (enc : TypeId × Value → H) :
    ReturnsInHanded {} Try.checked os 5 .any (Rows.gripFullSpec.pre6 enc Try.prog Try.f5 Rows.gripFullRow.domain false) (Rows.gripFullSpec.post enc Try.prog Try.f5 false true false false) := by
  refine returnsInHanded_of_change (C := Try.checked) own started (by kernel_rfl) Try.func5
    (ChangeSpec.witness6 (enc := enc) (C := Try.checked) false ⟨#[], #[.int .i64 0, .int .i64 0, .int .i64 0], []⟩ 8 (by kernel_rfl) (by kernel_rfl) (by kernel_rfl) (by kernel_rfl)) ?_
  intro W base args ds gs before hval0 hW hcnd _
  have hval : ∀ (j : Nat) t v, Try.f5.params[j]? = some t → args[j]? = some v → Value.okWide Try.prog W .any base t v := hval0
  have hW' := hW
  obtain ⟨p, q, hA0, hV, rfl, hfz, hnd⟩ := hW
  have hA : DataW.TrodAll enc Try.prog W 0 (fun _ => true) true Try.f5.params.toList args.toList ds p := hA0
  rw [Try.params5] at hA hval
  obtain ⟨v0, vs0, d0, ds0, p0, q0, hargs, rfl, rfl, h0, r0⟩ := trodAll_cons hA
  obtain ⟨v1, vs1, d1, ds1, p1, q1, rfl, rfl, rfl, h1, r1⟩ := trodAll_cons r0
  obtain ⟨v2, vs2, d2, ds2, p2, q2, rfl, rfl, rfl, h2, r2⟩ := trodAll_cons r1
  obtain ⟨rfl, rfl, rfl⟩ := trodAll_nil r2
  obtain rfl : args = #[v0, v1, v2] := by cases args; simp_all
  obtain ⟨rfl, rfl⟩ := trodVars_none hV
  have k0 := h0
  have lt0 : ∀ x ∈ p0, x.block < W.heap.size := by obtain ⟨m, hm⟩ := k0; exact DataW.trod_lt m _ _ _ hm
  obtain ⟨a0, rfl, rfl, rfl, w0⟩ := open_int Try.underlying3 (hval 0 3 v0 rfl rfl) h0
  have k1 := h1
  have lt1 : ∀ x ∈ p1, x.block < W.heap.size := by obtain ⟨m, hm⟩ := k1; exact DataW.trod_lt m _ _ _ hm
  obtain ⟨a1, rfl, rfl, rfl, w1⟩ := open_int Try.underlying3 (hval 1 3 v1 rfl rfl) h1
  have k2 := h2
  have lt2 : ∀ x ∈ p2, x.block < W.heap.size := by obtain ⟨m, hm⟩ := k2; exact DataW.trod_lt m _ _ _ hm
  obtain ⟨a2, rfl, rfl, rfl, w2⟩ := open_int Try.underlying3 (hval 2 3 v2 rfl rfl) h2
  clear hA0 hval0
  refine (walk a0 a1 a2 W w0 w1 w2).mono fun e W' ⟨he, bel⟩ => ?_
  subst he
  exact ⟨_, rfl, _, _, _, [], _, [], hW', trodAll_mk1 (shut_bool Try.underlying4 _), (trodAll_cons_mk (Below.trod laidOut (by kernel_rfl) (of_decide_eq_true (by kernel_rfl)) k0 bel lt0) (trodAll_cons_mk (Below.trod laidOut (by kernel_rfl) (of_decide_eq_true (by kernel_rfl)) k1 bel lt1) (trodAll_cons_mk (Below.trod laidOut (by kernel_rfl) (of_decide_eq_true (by kernel_rfl)) k2 bel lt2) trodAll_mk0))), rfl, Below.frame bel _, fun h => by cases h⟩

theorem over : Rows.gripFullRow.holds Try.pinned (OpenSpec.ofChange Rows.gripFullSpec) :=
  OpenClaim.holds_of_wide 5 Try.f5 rfl rfl rfl rfl rfl rfl rfl ⟨rfl, rfl, rfl, rfl, rfl⟩ rfl rfl rfl rfl rfl (by kernel_rfl) Try.func5 (by kernel_rfl)
    (of_decide_eq_true (by kernel_rfl)) (by unfold Func.isWrapper; first | (rw [if_pos (by decide +kernel)]; kernel_rfl) | (rw [if_neg (by decide +kernel)]; exact ⟨rfl, rfl⟩))
    (fun os started H enc _ => lifted os started H enc)

/-- THE STATEMENT -/
theorem proved : Rows.GripFullSaid := over
#print axioms proved
end Go.Proofs.Ytkfmnaocdfoigaa.gripFull
