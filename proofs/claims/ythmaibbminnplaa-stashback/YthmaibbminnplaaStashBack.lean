/-
  StashBack of layer 8: what is given comes back the last first; what is over is the eldest, just as much as is too much, and the rest, taken, is what was not; for all numbers.
-/
import Derived.Test.YthmaibbminnplaaRows
import Derived.Test.YthmaibbminnplaaStashTwo
import Derived.WalkKit
import Derived.ProofKit
import Derived.OpenShut
import Derived.ShutString
import Derived.ChangeOld
import Derived.Below
import Derived.Carry
import Derived.Lib.SmallJoins
import Derived.BigQuiet
namespace Go.Proofs.Ythmaibbminnplaa.stashBack
open Go.ChangeShapes Go.WideShapes Go.ChangeAt Go.RowKit Go.Joins Go.Proofs.Ythmaibbminnplaa W64
open Go.ChangeMaps (open_string shut_string)
set_option linter.unusedVariables false

theorem own : ownKnob Try.prog.godebug = none := by kernel_rfl
theorem laidOut : laidOutB Try.prog = true := by kernel_rfl

def GiveRel (W : World) (q : Nat) (m : Int) (k : Nat) (i : Value) (wr : World) : Prop := ∃ j : Nat, i = .int .i64 j ∧ j ≤ k ∧ ∃ F, Mine 47 W wr q m (upto j) F
def SeeRel (w : World) (r : Nat) (i : Value) (wr : World) : Prop := ∃ j : Nat, i = .int .i64 j ∧ j ≤ r ∧ Up w wr
def BackRel (W : World) (q : Nat) (m : Int) (g k : Nat) (i : Value) (wr : World) : Prop := ∃ j : Nat, i = .int .i64 ((j : Int) - 1) ∧ g ≤ j ∧ j ≤ k ∧ ∃ F, Mine 47 W wr q m ((upto j).drop g) F
theorem upto_cut {g j : Nat} (h : g ≤ j) : (upto (j + 1)).drop g = (upto j).drop g ++ [(j : Int)] := by
  rw [← upto_succ, List.drop_append_of_le_length (by rw [upto_len]; exact h)]
theorem upto_all (g : Nat) : (upto g).drop g = [] := by apply List.drop_eq_nil_of_le; rw [upto_len]; exact Nat.le_refl _
theorem take_see {k r j : Nat} (hj : j < r) (hr : r ≤ k) : ((upto k).take r).getD j 0 = (j : Int) := by
  have h := upto_get (k := k) (j := j) (by omega)
  simp only [List.getD, List.getElem?_take] at h ⊢
  rw [if_pos hj]; exact h

set_option maxHeartbeats 8000000 in
set_option maxRecDepth 100000 in
theorem walk (a0 : Int) (a1 : Int) (a2 : Bool) (w : World) (w0 : (Lit.int .i64 a0).wf = true) (w1 : (Lit.int .i64 a1).wf = true) :
    Calls Try.prog 4 #[.int .i64 a0, .int .i64 a1, .bool a2] w fun e w' => e = .returned (.bool true) ∧ Up w w' := by
  clear w0 w1
  obtain ⟨x, hx, _, x0, x1⟩ := emod_letter a0 65 (by decide)
  obtain ⟨M, rfl⟩ : ∃ t : Nat, x = t := ⟨x.toNat, by omega⟩
  obtain ⟨y, hy, _, y0, y1⟩ := emod_letter a1 100 (by decide)
  obtain ⟨K, rfl⟩ : ∃ t : Nat, y = t := ⟨y.toNat, by omega⟩
  have HX := Lib.hid hx
  have HY := Lib.hid hy
  have hM : M ≤ 64 := by omega
  have hK : K ≤ 99 := by omega
  have HC := Lib.hid (show cutM (M : Int) = (M : Int) by unfold cutM; rw [if_neg (by omega), if_neg (by omega)])
  clear hx hy
  go_enter Try.func4, Try.ntmps4
  go_wp2_with (first
    | (go_at_call 7; refine (first_any _).mono ?_; rintro e wA ⟨rfl, UA⟩)
    | (go_at_call 10; (with_reducible refine (number_is HX.out (by decide) (by decide) _).mono ?_); rintro e w' ⟨rfl, rfl⟩)
    | (go_at_call 10; (with_reducible refine (number_is HY.out (by decide) (by decide) _).mono ?_); rintro e w' ⟨rfl, rfl⟩)
    | (go_at_call 8; (with_reducible refine (snew_q _ _ HC.out).mono ?_); rintro e wB ⟨q, rfl, MB, -⟩; have HMB := Lib.hid MB; clear MB))
  have HUA := Lib.hid UA
  clear UA
  go_loopw [11] (fun i wr => GiveRel wA q M K i wr) (fun i _ => K - (intOf i).toNat)
  case atStart => exact ⟨0, rfl, Nat.zero_le _, _, HMB.out⟩
  case round =>
    obtain ⟨j, rfl, hj, F, P⟩ := hrel
    have HP := Lib.hid P
    clear P
    have i0 : (0 : Int) ≤ (j : Int) := Int.natCast_nonneg _
    by_cases hlt : j < K
    · have i1 : (j : Int) < (K : Int) := by omega
      have HL := Lib.hid (show (upto j).length + 1 ≤ 8192 by rw [upto_len]; omega)
      have HU := Lib.hid (upto_succ j)
      go_wp2_with (first
        | (go_at_call 11; (with_reducible refine (sgive1 HP.out.sta HL.out HU.out).mono ?_); rintro e w5 ⟨rfl, G5⟩; obtain ⟨F5, P5, -, -⟩ := HP.out.gave G5; have HP5 := Lib.hid P5; clear G5 P5))
      go_roundw
      case rel => exact ⟨j + 1, by go_num, by omega, _, HP5.out⟩
      case measure => simp [intOf]; omega
    have i1 : ¬ (j : Int) < (K : Int) := by omega
    obtain rfl : j = K := by omega
    have HL := Lib.hid (show (upto j).length ≤ 8192 by rw [upto_len]; omega)
    have HN0 := Lib.hid (show ([] : List Int).length = 0 from rfl)
    have HF0 := Lib.hid (show (([] : List Int).length : Int) ≤ (M : Int) by simp)
    have HM64 := Lib.hid (show (M : Int) ≤ 64 by omega)
    clear hlt hj
    cases a2
    · have HP4 := HP
      have HP0 := Lib.hid (show Mine 47 wA wr q M ((upto j).drop 0) F from HP4.out)
      have HDL := Lib.hid (show ((upto j).drop 0).length = j from upto_len j)
      have HGJ := Lib.hid (Nat.zero_le j)
      go_upto_region 26 with (first
        | (go_at_call 21; (with_reducible refine (slen_to HP0.out.sta HDL.out).mono ?_); rintro e w6 ⟨rfl, rfl⟩))
      go_wp2_with fail
      go_loopw [15] (fun i wr => BackRel wA q M 0 j i wr) (fun i _ => (intOf i + 1 - 0).toNat)
      case atStart => exact ⟨j, by go_num, HGJ.out, Nat.le_refl _, _, HP0.out⟩
      case round =>
        obtain ⟨j2, rfl, hg2, hj2, F2, P2⟩ := hrel
        have HP2 := Lib.hid P2
        clear P2
        by_cases hlt2 : 0 < j2
        · obtain ⟨j3, rfl⟩ : ∃ j3, j2 = j3 + 1 := ⟨j2 - 1, by omega⟩
          have HT2 := Lib.hid (upto_cut (g := 0) (j := j3) (by omega))
          have i3 : (0 : Int) ≤ (j3 : Int) := by omega
          rw [show (((j3 + 1 : Nat) : Int) - 1) = (j3 : Int) by omega]
          have i4 : j3 < 99 := by omega
          clear hg2 hlt2
          go_wp2_with (first
            | (go_at_call 13; (with_reducible refine (stake_to HP2.out.sta HT2.out).mono ?_); rintro e w7 ⟨rfl, G7⟩; obtain ⟨F7, P7, -, -⟩ := HP2.out.gave G7; have HP7 := Lib.hid P7; clear G7 P7))
          go_roundw
          case rel => exact ⟨j3, by go_num, by omega, by omega, _, HP7.out⟩
          case measure => simp [intOf] <;> omega
        · have e2 : j2 = 0 := by omega
          rw [e2] at HP2 ⊢
          have HP3 := Lib.hid HP2.out
          rw [upto_all 0] at HP3
          have i3 : ¬ (0 : Int) ≤ (0 : Int) - 1 := by omega
          clear e2 hlt2 hg2 hj2 HP2
          go_wp2_with (first
            | (go_at_call 13; (with_reducible refine (stake_none HP3.out.sta).mono ?_); rintro e w7 ⟨rfl, rfl⟩)
            | (go_at_call 18; (with_reducible refine (sall_to HP3.out.sta HN0.out).mono ?_); rintro e w8 ⟨A8, c8, rfl, T8⟩; obtain ⟨F8, P8, -⟩ := HP3.out.took T8; have HP8 := Lib.hid P8; clear T8 P8)
            | (go_at_call 16; (with_reducible refine (sover_few HP8.out.sta HF0.out HM64.out).mono ?_); rintro e w9 ⟨rfl, U9⟩; have HP9 := Lib.hid (HP8.out.then U9); clear U9))
          go_ret
          exact ⟨rfl, HUA.out.trans HP9.out.up⟩
    by_cases h1 : j < M
    · have HFEW := Lib.hid (show ((upto j).length : Int) ≤ (M : Int) by rw [upto_len]; omega)
      have m1 : (j : Int) - M < 0 := by omega
      go_wp2_with (first
        | (go_at_call 16; (with_reducible refine (sover_few HP.out.sta HFEW.out HM64.out).mono ?_); rintro e w4 ⟨rfl, U4⟩; have HP4 := Lib.hid (HP.out.then U4); clear U4))
      go_loopw [14] (fun i wr => SeeRel w4 0 i wr) (fun i _ => 0)
      case atStart => exact ⟨0, rfl, Nat.le_refl _, Up.refl _⟩
      case round =>
        obtain ⟨j4, rfl, hj4, U4⟩ := hrel
        obtain rfl : j4 = 0 := by omega
        have HP5 := Lib.hid (HP4.out.then U4)
        clear U4 HP4 hj4
        have HP0 := Lib.hid (show Mine 47 wA wr q M ((upto j).drop 0) F from HP5.out)
        have HDL := Lib.hid (show ((upto j).drop 0).length = j from upto_len j)
        have HGJ := Lib.hid (Nat.zero_le j)
        go_upto_region 26 with (first
          | (go_at_call 21; (with_reducible refine (slen_to HP0.out.sta HDL.out).mono ?_); rintro e w6 ⟨rfl, rfl⟩))
        go_wp2_with fail
        go_loopw [15] (fun i wr => BackRel wA q M 0 j i wr) (fun i _ => (intOf i + 1 - 0).toNat)
        case atStart => exact ⟨j, by go_num, HGJ.out, Nat.le_refl _, _, HP0.out⟩
        case round =>
          obtain ⟨j2, rfl, hg2, hj2, F2, P2⟩ := hrel
          have HP2 := Lib.hid P2
          clear P2
          by_cases hlt2 : 0 < j2
          · obtain ⟨j3, rfl⟩ : ∃ j3, j2 = j3 + 1 := ⟨j2 - 1, by omega⟩
            have HT2 := Lib.hid (upto_cut (g := 0) (j := j3) (by omega))
            have i3 : (0 : Int) ≤ (j3 : Int) := by omega
            rw [show (((j3 + 1 : Nat) : Int) - 1) = (j3 : Int) by omega]
            have i4 : j3 < 99 := by omega
            clear hg2 hlt2
            go_wp2_with (first
              | (go_at_call 13; (with_reducible refine (stake_to HP2.out.sta HT2.out).mono ?_); rintro e w7 ⟨rfl, G7⟩; obtain ⟨F7, P7, -, -⟩ := HP2.out.gave G7; have HP7 := Lib.hid P7; clear G7 P7))
            go_roundw
            case rel => exact ⟨j3, by go_num, by omega, by omega, _, HP7.out⟩
            case measure => simp [intOf] <;> omega
          · have e2 : j2 = 0 := by omega
            rw [e2] at HP2 ⊢
            have HP3 := Lib.hid HP2.out
            rw [upto_all 0] at HP3
            have i3 : ¬ (0 : Int) ≤ (0 : Int) - 1 := by omega
            clear e2 hlt2 hg2 hj2 HP2
            go_wp2_with (first
              | (go_at_call 13; (with_reducible refine (stake_none HP3.out.sta).mono ?_); rintro e w7 ⟨rfl, rfl⟩)
              | (go_at_call 18; (with_reducible refine (sall_to HP3.out.sta HN0.out).mono ?_); rintro e w8 ⟨A8, c8, rfl, T8⟩; obtain ⟨F8, P8, -⟩ := HP3.out.took T8; have HP8 := Lib.hid P8; clear T8 P8)
              | (go_at_call 16; (with_reducible refine (sover_few HP8.out.sta HF0.out HM64.out).mono ?_); rintro e w9 ⟨rfl, U9⟩; have HP9 := Lib.hid (HP8.out.then U9); clear U9))
            go_ret
            exact ⟨rfl, HUA.out.trans HP9.out.up⟩
    by_cases h2 : j = M
    · subst h2
      have HFEW := Lib.hid (show ((upto j).length : Int) ≤ (j : Int) by rw [upto_len]; omega)
      go_wp2_with (first
        | (go_at_call 16; (with_reducible refine (sover_few HP.out.sta HFEW.out HM64.out).mono ?_); rintro e w4 ⟨rfl, U4⟩; have HP4 := Lib.hid (HP.out.then U4); clear U4))
      go_loopw [14] (fun i wr => SeeRel w4 0 i wr) (fun i _ => 0)
      case atStart => exact ⟨0, rfl, Nat.le_refl _, Up.refl _⟩
      case round =>
        obtain ⟨j4, rfl, hj4, U4⟩ := hrel
        obtain rfl : j4 = 0 := by omega
        have HP5 := Lib.hid (HP4.out.then U4)
        clear U4 HP4 hj4
        have HP0 := Lib.hid (show Mine 47 wA wr q j ((upto j).drop 0) F from HP5.out)
        have HDL := Lib.hid (show ((upto j).drop 0).length = j from upto_len j)
        have HGJ := Lib.hid (Nat.zero_le j)
        go_upto_region 26 with (first
          | (go_at_call 21; (with_reducible refine (slen_to HP0.out.sta HDL.out).mono ?_); rintro e w6 ⟨rfl, rfl⟩))
        go_wp2_with fail
        go_loopw [15] (fun i wr => BackRel wA q j 0 j i wr) (fun i _ => (intOf i + 1 - 0).toNat)
        case atStart => exact ⟨j, by go_num, HGJ.out, Nat.le_refl _, _, HP0.out⟩
        case round =>
          obtain ⟨j2, rfl, hg2, hj2, F2, P2⟩ := hrel
          have HP2 := Lib.hid P2
          clear P2
          by_cases hlt2 : 0 < j2
          · obtain ⟨j3, rfl⟩ : ∃ j3, j2 = j3 + 1 := ⟨j2 - 1, by omega⟩
            have HT2 := Lib.hid (upto_cut (g := 0) (j := j3) (by omega))
            have i3 : (0 : Int) ≤ (j3 : Int) := by omega
            rw [show (((j3 + 1 : Nat) : Int) - 1) = (j3 : Int) by omega]
            have i4 : j3 < 99 := by omega
            clear hg2 hlt2
            go_wp2_with (first
              | (go_at_call 13; (with_reducible refine (stake_to HP2.out.sta HT2.out).mono ?_); rintro e w7 ⟨rfl, G7⟩; obtain ⟨F7, P7, -, -⟩ := HP2.out.gave G7; have HP7 := Lib.hid P7; clear G7 P7))
            go_roundw
            case rel => exact ⟨j3, by go_num, by omega, by omega, _, HP7.out⟩
            case measure => simp [intOf] <;> omega
          · have e2 : j2 = 0 := by omega
            rw [e2] at HP2 ⊢
            have HP3 := Lib.hid HP2.out
            rw [upto_all 0] at HP3
            have i3 : ¬ (0 : Int) ≤ (0 : Int) - 1 := by omega
            clear e2 hlt2 hg2 hj2 HP2
            go_wp2_with (first
              | (go_at_call 13; (with_reducible refine (stake_none HP3.out.sta).mono ?_); rintro e w7 ⟨rfl, rfl⟩)
              | (go_at_call 18; (with_reducible refine (sall_to HP3.out.sta HN0.out).mono ?_); rintro e w8 ⟨A8, c8, rfl, T8⟩; obtain ⟨F8, P8, -⟩ := HP3.out.took T8; have HP8 := Lib.hid P8; clear T8 P8)
              | (go_at_call 16; (with_reducible refine (sover_few HP8.out.sta HF0.out HM64.out).mono ?_); rintro e w9 ⟨rfl, U9⟩; have HP9 := Lib.hid (HP8.out.then U9); clear U9))
            go_ret
            exact ⟨rfl, HUA.out.trans HP9.out.up⟩
    obtain ⟨r, hr⟩ : ∃ r, j = r + M := ⟨j - M, by omega⟩
    have r0 : 0 < r := by omega
    have HO := Lib.hid (show ((upto j).length : Int) - M = (r : Nat) by rw [upto_len]; omega)
    have HM0 := Lib.hid (show (0 : Int) ≤ (M : Int) by omega)
    obtain ⟨tk, htk⟩ : ∃ tk, (upto j).take r = tk := ⟨_, rfl⟩
    have HTK := Lib.hid htk
    have HDR := Lib.hid (show (upto j).drop r = (upto j).drop r from rfl)
    have HTL := Lib.hid (show tk.length = r by rw [← htk, List.length_take, upto_len]; omega)
    have HSEE := Lib.hid (show ∀ i, i < r → tk.getD i 0 = (i : Int) by rw [← htk]; exact fun i hi => take_see hi (by omega))
    have HDL := Lib.hid (show ((upto j).drop r).length = M by rw [List.length_drop, upto_len]; omega)
    have HGJ := Lib.hid (show r ≤ j by omega)
    have r1 : r ≤ j := by omega
    obtain ⟨g1, g2⟩ : IntKind.i64.wrap ((j : Int) - M) = (r : Int) ∧ IntKind.i64.wrap ((j : Int) - r) = (M : Int) := ⟨by rw [IntWalk.i64_in _ (by omega)]; omega, by rw [IntWalk.i64_in _ (by omega)]; omega⟩
    have r2 : ¬ (r : Int) < 0 := by omega
    have r3 : (0 : Int) < (r : Int) := by omega
    clear hr htk
    go_wp2_with (first
      | (go_at_call 16; (with_reducible refine (sover_to HP.out.sta HO.out r0 HM0.out HL.out HDR.out HTK.out).mono ?_); rintro e w4 ⟨A4, rfl, T4⟩; obtain ⟨F4, P4, R4, -⟩ := HP.out.took T4; have HP4 := Lib.hid P4; have HR4 := Lib.hid R4; clear T4 P4 R4))
    go_loopw [14] (fun i wr => SeeRel w4 r i wr) (fun i _ => r - (intOf i).toNat)
    case atStart => exact ⟨0, rfl, Nat.zero_le _, Up.refl _⟩
    case round =>
      obtain ⟨j4, rfl, hj4, U4⟩ := hrel
      have HU4 := Lib.hid U4
      clear U4
      have i4 : (0 : Int) ≤ (j4 : Int) := Int.natCast_nonneg _
      by_cases hlt4 : j4 < r
      · have i5 : (j4 : Int) < (r : Int) := by omega
        obtain ⟨g4, o4, rfl, c4⟩ := HR4.out.cell (j := j4) (by rw [HTL.out]; exact hlt4)
        rw [HSEE.out j4 hlt4] at c4
        replace c4 := HU4.out.kept c4
        go_wp2_with fail
        go_roundw
        case rel => exact ⟨j4 + 1, by go_num, by omega, HU4.out⟩
        case measure => simp [intOf]; omega
      have i5 : ¬ (j4 : Int) < (r : Int) := by omega
      obtain rfl : j4 = r := by omega
      have HP5 := Lib.hid (HP4.out.then HU4.out)
      clear hlt4 hj4
      go_upto_region 26 with (first
        | (go_at_call 21; (with_reducible refine (slen_to HP5.out.sta HDL.out).mono ?_); rintro e w6 ⟨rfl, rfl⟩))
      go_wp2_with fail
      go_loopw [15] (fun i wr => BackRel wA q M j4 j i wr) (fun i _ => (intOf i + 1 - j4).toNat)
      case atStart => exact ⟨j, by go_num, HGJ.out, Nat.le_refl _, _, HP5.out⟩
      case round =>
        obtain ⟨j2, rfl, hg2, hj2, F2, P2⟩ := hrel
        have HP2 := Lib.hid P2
        clear P2
        by_cases hlt2 : j4 < j2
        · obtain ⟨j3, rfl⟩ : ∃ j3, j2 = j3 + 1 := ⟨j2 - 1, by omega⟩
          have HT2 := Lib.hid (upto_cut (g := j4) (j := j3) (by omega))
          have i3 : (j4 : Int) ≤ (j3 : Int) := by omega
          rw [show (((j3 + 1 : Nat) : Int) - 1) = (j3 : Int) by omega]
          have i4 : j3 < 99 := by omega
          clear hg2 hlt2
          go_wp2_with (first
            | (go_at_call 13; (with_reducible refine (stake_to HP2.out.sta HT2.out).mono ?_); rintro e w7 ⟨rfl, G7⟩; obtain ⟨F7, P7, -, -⟩ := HP2.out.gave G7; have HP7 := Lib.hid P7; clear G7 P7))
          go_roundw
          case rel => exact ⟨j3, by go_num, by omega, by omega, _, HP7.out⟩
          case measure => simp [intOf] <;> omega
        · have e2 : j2 = j4 := by omega
          rw [e2] at HP2 ⊢
          have HP3 := Lib.hid HP2.out
          rw [upto_all j4] at HP3
          have i3 : ¬ (j4 : Int) ≤ (j4 : Int) - 1 := by omega
          clear e2 hlt2 hg2 hj2 HP2
          go_wp2_with (first
            | (go_at_call 13; (with_reducible refine (stake_none HP3.out.sta).mono ?_); rintro e w7 ⟨rfl, rfl⟩)
            | (go_at_call 18; (with_reducible refine (sall_to HP3.out.sta HN0.out).mono ?_); rintro e w8 ⟨A8, c8, rfl, T8⟩; obtain ⟨F8, P8, -⟩ := HP3.out.took T8; have HP8 := Lib.hid P8; clear T8 P8)
            | (go_at_call 16; (with_reducible refine (sover_few HP8.out.sta HF0.out HM64.out).mono ?_); rintro e w9 ⟨rfl, U9⟩; have HP9 := Lib.hid (HP8.out.then U9); clear U9))
          go_ret
          exact ⟨rfl, HUA.out.trans HP9.out.up⟩

set_option maxRecDepth 100000 in
theorem lifted (os : Os) (started : os.Started) (H : Type) (enc : TypeId × Value → H) :
    ReturnsInHanded {} Try.checked os 4 .any (Rows.stashBackSpec.pre6 enc Try.prog Try.f4 Rows.stashBackRow.domain false) (Rows.stashBackSpec.post enc Try.prog Try.f4 false true false false) := by
  refine returnsInHanded_of_change (C := Try.checked) own started (by kernel_rfl) Try.func4
    (ChangeSpec.witness6 (enc := enc) (C := Try.checked) false ⟨#[], #[.int .i64 0, .int .i64 0, .bool false], []⟩ 8 (by kernel_rfl) (by kernel_rfl) (by kernel_rfl) (by kernel_rfl)) ?_
  intro W base args ds gs before hval0 hW hcnd _
  have hval : ∀ (j : Nat) t v, Try.f4.params[j]? = some t → args[j]? = some v → Value.okWide Try.prog W .any base t v := hval0
  have hW' := hW
  obtain ⟨p, q, hA0, hV, rfl, hfz, hnd⟩ := hW
  have hA : DataW.TrodAll enc Try.prog W 0 (fun _ => true) true Try.f4.params.toList args.toList ds p := hA0
  rw [Try.params4] at hA hval
  obtain ⟨v0, vs0, d0, ds0, p0, q0, hargs, rfl, rfl, h0, r0⟩ := trodAll_cons hA
  obtain ⟨v1, vs1, d1, ds1, p1, q1, rfl, rfl, rfl, h1, r1⟩ := trodAll_cons r0
  obtain ⟨v2, vs2, d2, ds2, p2, q2, rfl, rfl, rfl, h2, r2⟩ := trodAll_cons r1
  obtain ⟨rfl, rfl, rfl⟩ := trodAll_nil r2
  obtain rfl : args = #[v0, v1, v2] := by cases args; simp_all
  obtain ⟨rfl, rfl⟩ := trodVars_none hV
  have k0 := h0
  have lt0 : ∀ x ∈ p0, x.block < W.heap.size := by obtain ⟨m, hm⟩ := k0; exact DataW.trod_lt m _ _ _ hm
  obtain ⟨a0, rfl, rfl, rfl, w0⟩ := open_int Try.underlying3 (hval 0 3 v0 rfl rfl) h0
  have k1 := h1
  have lt1 : ∀ x ∈ p1, x.block < W.heap.size := by obtain ⟨m, hm⟩ := k1; exact DataW.trod_lt m _ _ _ hm
  obtain ⟨a1, rfl, rfl, rfl, w1⟩ := open_int Try.underlying3 (hval 1 3 v1 rfl rfl) h1
  have k2 := h2
  have lt2 : ∀ x ∈ p2, x.block < W.heap.size := by obtain ⟨m, hm⟩ := k2; exact DataW.trod_lt m _ _ _ hm
  obtain ⟨a2, rfl, rfl, rfl⟩ := open_bool Try.underlying4 (hval 2 4 v2 rfl rfl) h2
  clear hA0 hval0
  refine (walk a0 a1 a2 W w0 w1).mono fun e W' ⟨he, bel⟩ => ?_
  subst he
  exact ⟨_, rfl, _, _, _, [], _, [], hW', trodAll_mk1 (shut_bool Try.underlying4 _), (trodAll_cons_mk (Below.trod laidOut (by kernel_rfl) (of_decide_eq_true (by kernel_rfl)) k0 bel lt0) (trodAll_cons_mk (Below.trod laidOut (by kernel_rfl) (of_decide_eq_true (by kernel_rfl)) k1 bel lt1) (trodAll_cons_mk (Below.trod laidOut (by kernel_rfl) (of_decide_eq_true (by kernel_rfl)) k2 bel lt2) trodAll_mk0))), rfl, Below.frame bel _, fun h => by cases h⟩

theorem over : Rows.stashBackRow.holds Try.pinned (OpenSpec.ofChange Rows.stashBackSpec) :=
  OpenClaim.holds_of_wide 4 Try.f4 rfl rfl rfl rfl rfl rfl rfl ⟨rfl, rfl, rfl, rfl, rfl⟩ rfl rfl rfl rfl rfl (by kernel_rfl) Try.func4 (by kernel_rfl)
    (of_decide_eq_true (by kernel_rfl)) (by unfold Func.isWrapper; first | (rw [if_pos (by decide +kernel)]; kernel_rfl) | (rw [if_neg (by decide +kernel)]; exact ⟨rfl, rfl⟩))
    (fun os started H enc _ => lifted os started H enc)

/-- THE STATEMENT -/
theorem proved : Rows.StashBackSaid := over
#print axioms proved
end Go.Proofs.Ythmaibbminnplaa.stashBack
