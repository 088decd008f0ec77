/-
  StashCuts of layer 8: a greatest number that is none is cut: below 0 all is over, above the limit no more than the limit stays; for all numbers.
-/
import Derived.Test.YthmaibbminnplaaRows
import Derived.Test.YthmaibbminnplaaStashTwo
import Derived.WalkKit
import Derived.ProofKit
import Derived.OpenShut
import Derived.ShutString
import Derived.ChangeOld
import Derived.Below
import Derived.Carry
import Derived.Lib.SmallJoins
import Derived.BigQuiet
namespace Go.Proofs.Ythmaibbminnplaa.stashCuts
open Go.ChangeShapes Go.WideShapes Go.ChangeAt Go.RowKit Go.Joins Go.Proofs.Ythmaibbminnplaa W64
open Go.ChangeMaps (open_string shut_string)
set_option linter.unusedVariables false

theorem own : ownKnob Try.prog.godebug = none := by kernel_rfl
theorem laidOut : laidOutB Try.prog = true := by kernel_rfl

def CutRel (W : World) (q p k : Nat) (i : Value) (wr : World) : Prop :=
  ∃ j : Nat, i = .int .i64 j ∧ j ≤ k ∧ ∃ F G, Pair 47 47 W wr q p 0 64 (upto j) (upto j) F G

set_option maxHeartbeats 2000000 in
set_option maxRecDepth 100000 in
theorem walk (a0 : Int) (a1 : Int) (w : World) (w0 : (Lit.int .i64 a0).wf = true) (w1 : (Lit.int .i64 a1).wf = true) :
    Calls Try.prog 5 #[.int .i64 a0, .int .i64 a1] w fun e w' => e = .returned (.bool true) ∧ Up w w' := by
  clear w0 w1
  obtain ⟨x, hx, _, x0, x1⟩ := emod_letter a1 150 (by decide)
  obtain ⟨k', rfl⟩ : ∃ t : Nat, x = t := ⟨x.toNat, by omega⟩
  obtain ⟨y, hy, _, y0, y1⟩ := emod_letter a0 1000 (by decide)
  have HX := Lib.hid hx
  have HY := Lib.hid hy
  obtain ⟨k, hk⟩ : ∃ k, k = k' + 1 := ⟨_, rfl⟩
  have k1 : 1 ≤ k := by omega
  have k2 : k ≤ 150 := by omega
  have HE := Lib.hid (show 1 + (k' : Int) = (k : Int) by omega)
  have HM0 := Lib.hid (show cutM (-(1 + y)) = 0 by unfold cutM; rw [if_pos (by omega)])
  have HM64 := Lib.hid (show cutM (64 + (1 + y)) = 64 by unfold cutM; rw [if_neg (by omega), if_pos (by omega)])
  clear hx hy hk
  go_enter Try.func5, Try.ntmps5
  go_wp2_with (first
    | (go_at_call 7; refine (first_any _).mono ?_; rintro e wA ⟨rfl, UA⟩)
    | (go_at_call 10; (with_reducible refine (number_is HX.out (by decide) (by decide) _).mono ?_); rintro e w' ⟨rfl, rfl⟩)
    | (go_at_call 10; (with_reducible refine (number_is HY.out (by decide) (by decide) _).mono ?_); rintro e w' ⟨rfl, rfl⟩)
    | (go_at_call 8; (with_reducible refine (snew_q _ (-(1 + y)) HM0.out).mono ?_); rintro e wB ⟨q, rfl, MB, -⟩; have HMB := Lib.hid MB; clear MB)
    | (go_at_call 8; (with_reducible refine (snew_q _ (64 + (1 + y)) HM64.out).mono ?_); rintro e wC ⟨p, rfl, MC, -⟩; have HMC := Lib.hid MC; clear MC))
  have HUA := Lib.hid UA
  rw [HE.out]
  have HP0 := Lib.hid (pair_new HMB.out HMC.out.sta HMC.out.up HMC.out.new)
  clear UA
  go_loopw [10] (fun i wr => CutRel wA q p k i wr) (fun i _ => k - (intOf i).toNat)
  case atStart => exact ⟨0, rfl, Nat.zero_le _, _, _, HP0.out⟩
  case round =>
    obtain ⟨j, rfl, hj, F, G, P⟩ := hrel
    have HP := Lib.hid P
    clear P
    have i0 : (0 : Int) ≤ (j : Int) := Int.natCast_nonneg _
    by_cases hlt : j < k
    · have i1 : (j : Int) < (k : Int) := by omega
      have HL := Lib.hid (show (upto j).length + 1 ≤ 8192 by rw [upto_len]; omega)
      have HU := Lib.hid (upto_succ j)
      go_wp2_with (first
        | (go_at_call 11; (with_reducible refine (sgive1 HP.out.a HL.out HU.out).mono ?_); rintro e w5 ⟨rfl, G5⟩; obtain ⟨F5, P5, -, -⟩ := HP.out.gaveA G5; have HP5 := Lib.hid P5; clear G5 P5)
        | (go_at_call 11; (with_reducible refine (sgive1 HP5.out.b HL.out HU.out).mono ?_); rintro e w6 ⟨rfl, G6⟩; obtain ⟨F6, P6, -, -⟩ := HP5.out.gaveB G6; have HP6 := Lib.hid P6; clear G6 P6))
      go_roundw
      case rel => exact ⟨j + 1, by go_num, by omega, _, _, HP6.out⟩
      case measure => simp [intOf]; omega
    · have i1 : ¬ (j : Int) < (k : Int) := by omega
      obtain rfl : j = k := by omega
      have HO1 := Lib.hid (show ((upto j).length : Int) - 0 = (j : Nat) by rw [upto_len]; omega)
      have HL := Lib.hid (show (upto j).length ≤ 8192 by rw [upto_len]; omega)
      have HD := Lib.hid (show (upto j).drop j = [] by apply List.drop_eq_nil_of_le; rw [upto_len]; exact Nat.le_refl _)
      have HTK := Lib.hid (show (upto j).take j = upto j by apply List.take_of_length_le; rw [upto_len]; exact Nat.le_refl _)
      have j0 : 0 < j := by omega
      have HUL := Lib.hid (upto_len j)
      have HN0 := Lib.hid (show ([] : List Int).length = 0 from rfl)
      by_cases h64 : j ≤ 64
      · have HF := Lib.hid (show ((upto j).length : Int) ≤ 64 by rw [upto_len]; omega)
        have a5 : IntKind.i64.wrap ((j : Int) - 64) = (j : Int) - 64 := IntWalk.i64_in _ (by omega)
        have m1 : (j : Int) - 64 ≤ 0 := by omega
        have m2 : (j : Int) ≤ 64 := by omega
        by_cases hl64 : j < 64
        · have m3 : (j : Int) - 64 < 0 := by omega
          go_wp2_with (first
            | (go_at_call 16; (with_reducible refine (sover_to HP.out.a HO1.out j0 (by decide) HL.out HD.out HTK.out).mono ?_); rintro e w5 ⟨A5, rfl, T5⟩; obtain ⟨F5, P5, -⟩ := HP.out.tookA T5; have HP5 := Lib.hid P5; clear T5 P5)
            | (go_at_call 21; (with_reducible refine (slen_to HP5.out.a HN0.out).mono ?_); rintro e w6 ⟨rfl, rfl⟩)
            | (go_at_call 16; (with_reducible refine (sover_few HP5.out.b HF.out (by decide)).mono ?_); rintro e w7 ⟨rfl, U7⟩; have HP7 := Lib.hid (HP5.out.then U7); clear U7)
            | (go_at_call 21; (with_reducible refine (slen_to HP7.out.b HUL.out).mono ?_); rintro e w8 ⟨rfl, rfl⟩))
          go_ret
          exact ⟨rfl, HUA.out.trans HP7.out.up⟩
        · obtain rfl : j = 64 := by omega
          go_wp2_with (first
            | (go_at_call 16; (with_reducible refine (sover_to HP.out.a HO1.out j0 (by decide) HL.out HD.out HTK.out).mono ?_); rintro e w5 ⟨A5, rfl, T5⟩; obtain ⟨F5, P5, -⟩ := HP.out.tookA T5; have HP5 := Lib.hid P5; clear T5 P5)
            | (go_at_call 21; (with_reducible refine (slen_to HP5.out.a HN0.out).mono ?_); rintro e w6 ⟨rfl, rfl⟩)
            | (go_at_call 16; (with_reducible refine (sover_few HP5.out.b HF.out (by decide)).mono ?_); rintro e w7 ⟨rfl, U7⟩; have HP7 := Lib.hid (HP5.out.then U7); clear U7)
            | (go_at_call 21; (with_reducible refine (slen_to HP7.out.b HUL.out).mono ?_); rintro e w8 ⟨rfl, rfl⟩))
          go_ret
          exact ⟨rfl, HUA.out.trans HP7.out.up⟩
      · obtain ⟨r, hr⟩ : ∃ r, j = r + 64 := ⟨j - 64, by omega⟩
        have HO2 := Lib.hid (show ((upto j).length : Int) - 64 = (r : Nat) by rw [upto_len]; omega)
        have r0 : 0 < r := by omega
        obtain ⟨dr, hdr⟩ : ∃ dr, (upto j).drop r = dr := ⟨_, rfl⟩
        obtain ⟨tr, htr⟩ : ∃ tr, (upto j).take r = tr := ⟨_, rfl⟩
        have HDR := Lib.hid hdr
        have HTR := Lib.hid htr
        have HD2 := Lib.hid (show dr.length = 64 by rw [← hdr, List.length_drop, upto_len]; omega)
        clear hdr htr
        have a5 : IntKind.i64.wrap ((j : Int) - 64) = (r : Int) := by rw [IntWalk.i64_in _ (by omega)]; omega
        have m1 : ¬ (r : Int) ≤ 0 := by omega
        have m2 : ¬ (j : Int) ≤ 64 := by omega
        clear hr
        go_wp2_with (first
          | (go_at_call 16; (with_reducible refine (sover_to HP.out.a HO1.out j0 (by decide) HL.out HD.out HTK.out).mono ?_); rintro e w5 ⟨A5, rfl, T5⟩; obtain ⟨F5, P5, -⟩ := HP.out.tookA T5; have HP5 := Lib.hid P5; clear T5 P5)
          | (go_at_call 21; (with_reducible refine (slen_to HP5.out.a HN0.out).mono ?_); rintro e w6 ⟨rfl, rfl⟩)
          | (go_at_call 16; (with_reducible refine (sover_to HP5.out.b HO2.out r0 (by decide) HL.out HDR.out HTR.out).mono ?_); rintro e w7 ⟨A7, rfl, T7⟩; obtain ⟨F7, P7, -⟩ := HP5.out.tookB T7; have HP7 := Lib.hid P7; clear T7 P7)
          | (go_at_call 21; (with_reducible refine (slen_to HP7.out.b HD2.out).mono ?_); rintro e w8 ⟨rfl, rfl⟩))
        go_ret
        exact ⟨rfl, HUA.out.trans HP7.out.up⟩

set_option maxRecDepth 100000 in
theorem lifted (os : Os) (started : os.Started) (H : Type) (enc : TypeId × Value → H) :
    ReturnsInHanded {} Try.checked os 5 .any (Rows.stashCutsSpec.pre6 enc Try.prog Try.f5 Rows.stashCutsRow.domain false) (Rows.stashCutsSpec.post enc Try.prog Try.f5 false true false false) := by
  refine returnsInHanded_of_change (C := Try.checked) own started (by kernel_rfl) Try.func5
    (ChangeSpec.witness6 (enc := enc) (C := Try.checked) false ⟨#[], #[.int .i64 0, .int .i64 0], []⟩ 8 (by kernel_rfl) (by kernel_rfl) (by kernel_rfl) (by kernel_rfl)) ?_
  intro W base args ds gs before hval0 hW hcnd _
  have hval : ∀ (j : Nat) t v, Try.f5.params[j]? = some t → args[j]? = some v → Value.okWide Try.prog W .any base t v := hval0
  have hW' := hW
  obtain ⟨p, q, hA0, hV, rfl, hfz, hnd⟩ := hW
  have hA : DataW.TrodAll enc Try.prog W 0 (fun _ => true) true Try.f5.params.toList args.toList ds p := hA0
  rw [Try.params5] at hA hval
  obtain ⟨v0, vs0, d0, ds0, p0, q0, hargs, rfl, rfl, h0, r0⟩ := trodAll_cons hA
  obtain ⟨v1, vs1, d1, ds1, p1, q1, rfl, rfl, rfl, h1, r1⟩ := trodAll_cons r0
  obtain ⟨rfl, rfl, rfl⟩ := trodAll_nil r1
  obtain rfl : args = #[v0, v1] := by cases args; simp_all
  obtain ⟨rfl, rfl⟩ := trodVars_none hV
  have k0 := h0
  have lt0 : ∀ x ∈ p0, x.block < W.heap.size := by obtain ⟨m, hm⟩ := k0; exact DataW.trod_lt m _ _ _ hm
  obtain ⟨a0, rfl, rfl, rfl, w0⟩ := open_int Try.underlying3 (hval 0 3 v0 rfl rfl) h0
  have k1 := h1
  have lt1 : ∀ x ∈ p1, x.block < W.heap.size := by obtain ⟨m, hm⟩ := k1; exact DataW.trod_lt m _ _ _ hm
  obtain ⟨a1, rfl, rfl, rfl, w1⟩ := open_int Try.underlying3 (hval 1 3 v1 rfl rfl) h1
  clear hA0 hval0
  refine (walk a0 a1 W w0 w1).mono fun e W' ⟨he, bel⟩ => ?_
  subst he
  exact ⟨_, rfl, _, _, _, [], _, [], hW', trodAll_mk1 (shut_bool Try.underlying4 _), (trodAll_cons_mk (Below.trod laidOut (by kernel_rfl) (of_decide_eq_true (by kernel_rfl)) k0 bel lt0) (trodAll_cons_mk (Below.trod laidOut (by kernel_rfl) (of_decide_eq_true (by kernel_rfl)) k1 bel lt1) trodAll_mk0)), rfl, Below.frame bel _, fun h => by cases h⟩

theorem over : Rows.stashCutsRow.holds Try.pinned (OpenSpec.ofChange Rows.stashCutsSpec) :=
  OpenClaim.holds_of_wide 5 Try.f5 rfl rfl rfl rfl rfl rfl rfl ⟨rfl, rfl, rfl, rfl, rfl⟩ rfl rfl rfl rfl rfl (by kernel_rfl) Try.func5 (by kernel_rfl)
    (of_decide_eq_true (by kernel_rfl)) (by unfold Func.isWrapper; first | (rw [if_pos (by decide +kernel)]; kernel_rfl) | (rw [if_neg (by decide +kernel)]; exact ⟨rfl, rfl⟩))
    (fun os started H enc _ => lifted os started H enc)

/-- THE STATEMENT -/
theorem proved : Rows.StashCutsSaid := over
#print axioms proved
end Go.Proofs.Ythmaibbminnplaa.stashCuts
