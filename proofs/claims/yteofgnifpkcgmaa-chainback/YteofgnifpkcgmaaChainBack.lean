/-
  Chunks set one behind the other: from each of them the list is it and those behind it, in as many accesses.
-/
import Derived.Test.YteofgnifpkcgmaaPart13
import Derived.Test.YteofgnifpkcgmaaRows
import Derived.WalkKit
import Derived.ProofKit
import Derived.OpenShut
import Derived.ShutString
import Derived.ChangeOld
import Derived.Below
import Derived.Carry
import Derived.Lib.SmallJoins
import Derived.Deep.RegionHeldLaw
import Derived.Deep.RegionLaw
namespace Go.Proofs.Yteofgnifpkcgmaa.chainBack
open Go.ChangeShapes Go.WideShapes Go.ChangeAt Go.RowKit Go.Joins Go.Proofs.Yteofgnifpkcgmaa W64
open Go.ChangeMaps (open_string shut_string)
set_option linter.unusedVariables false

theorem own : ownKnob Try.prog.godebug = none := by kernel_rfl
theorem laidOut : laidOutB Try.prog = true := by kernel_rfl


set_option maxHeartbeats 3000000 in
set_option maxRecDepth 100000 in
theorem walk (a0 : Int) (a1 : Int) (w : World) (w0 : (Lit.int .i64 a0).wf = true) (w1 : (Lit.int .i64 a1).wf = true) :
    Calls Try.prog 4 #[.int .i64 a0, .int .i64 a1] w fun e w' => e = .returned (.bool true) ∧ Up w w' := by
  clear w0 w1
  obtain ⟨x8, hx8, _, x80, x81⟩ := emod_letter a0 8 (by decide)
  obtain ⟨n, hn⟩ : ∃ n : Nat, 3 + x8 = (n : Int) := ⟨(3 + x8).toNat, by omega⟩
  have n3 : 3 ≤ n := by omega
  have n10 : n ≤ 10 := by omega
  have HX8 := Lib.hid hx8
  have HN8 := Lib.hid hn
  clear hx8 hn x80 x81
  obtain ⟨xa, hxa, _, xa0, xa1⟩ := emod_letter a1 (n : Int) (by omega)
  obtain ⟨k, hk⟩ : ∃ k : Nat, 1 + xa = (k : Int) := ⟨(1 + xa).toNat, by omega⟩
  have k1 : 1 ≤ k := by omega
  have kn : k ≤ n := by omega
  have HXA := Lib.hid hxa
  have n64 := Lib.hid (show (0 : Int) < (n : Int) ∧ (n : Int) < 9223372036854775808 by omega)
  have hk10 : k ≤ 10 := by omega
  obtain ⟨P, hP⟩ : ∃ P : Nat, k * (k + 1) = P := ⟨_, rfl⟩
  obtain ⟨Q, hQ⟩ : ∃ Q : Nat, P / 2 = Q := ⟨_, rfl⟩
  have hPs := k_small k1 hk10
  rw [hP] at hPs
  have HCN := Lib.hid (show ((cntB k k : Nat) : Int) = (k : Int) + (Q : Int) by rw [cntB_end k1 hk10, hP, hQ]; omega)
  have ePI : (k : Int) * ((k : Int) + 1) = (P : Int) := by rw [← hP]; rw [Int.natCast_mul]; rfl
  have eQI : (P : Int).tdiv 2 = (Q : Int) := by rw [Int.tdiv_eq_ediv_of_nonneg (by omega)]; omega
  have hQs : Q ≤ 55 := by omega
  have HP := Lib.hid (show IntKind.i64.wrap ((k : Int) * ((k : Int) + 1)) = (P : Int) ∧ wrap64 ((k : Int) * ((k : Int) + 1)) = (P : Int) ∧ IntKind.i64.wrap ((P : Int).tdiv 2) = (Q : Int) ∧ wrap64 ((P : Int).tdiv 2) = (Q : Int) ∧ IntKind.i64.wrap ((k : Int) + (Q : Int)) = (k : Int) + Q ∧ wrap64 ((k : Int) + (Q : Int)) = (k : Int) + Q by
    rw [ePI, eQI]; exact ⟨IntWalk.i64_in _ (by omega), wrap64_in (by omega) (by omega), IntWalk.i64_in _ (by omega), wrap64_in (by omega) (by omega), IntWalk.i64_in _ (by omega), wrap64_in (by omega) (by omega)⟩)
  have HEQ := Lib.hid (show ((k : Int) + Q == wrap64 ((k : Int) + wrap64 ((wrap64 ((k : Int) * ((k : Int) + 1))).tdiv 2))) = true by
    obtain ⟨h1, h2, h3, h4, h5, h6⟩ := HP.out
    rw [h2, h4, h6]; simp)
  clear HP
  clear hxa ePI eQI hP hQ hPs
  go_enter Try.func4, Try.ntmps4
  go_upto_region 5 with (first
    | (go_at_call 7; (with_reducible refine (first12 _).mono ?_); rintro r wA ⟨rfl, UA⟩; have HUA := Lib.hid UA; clear UA)
    | (go_at_call 8; (with_reducible refine (size_any HX8.out HN8.out _).mono ?_); rintro r wB ⟨rfl, UB⟩; have HUB := Lib.hid (HUA.out.trans UB); clear UB))
  obtain ⟨bc, hbc⟩ : ∃ bc, wB.heap.size = bc := ⟨_, rfl⟩
  have HB := Lib.hid (Whole.new wB 25 #[.int .i64 1, .int .i64 (n : Int), .int .i64 8, .int .i64 1, .int .i64 0, .int .i64 1])
  have HU0 := Lib.hid (HUB.out.then_alloc (.cells #[.int .i64 1, .int .i64 (n : Int), .int .i64 8, .int .i64 1, .int .i64 0, .int .i64 1] 25))
  rw [hbc] at HB ⊢
  clear hbc
  generalize wB.alloc (.cells #[.int .i64 1, .int .i64 (n : Int), .int .i64 8, .int .i64 1, .int .i64 0, .int .i64 1] 25) = w0 at *
  have e0 := HB.out.cell (i := 0) (v := .int .i64 1) rfl
  have e1 := HB.out.cell (i := 1) (v := .int .i64 (n : Int)) rfl
  have e2 := HB.out.cell (i := 2) (v := .int .i64 8) rfl
  have e3 := HB.out.cell (i := 3) (v := .int .i64 1) rfl
  have e4 := HB.out.cell (i := 4) (v := .int .i64 0) rfl
  have e5 := HB.out.cell (i := 5) (v := .int .i64 1) rfl
  go_upto_region 6 with (first
    | (go_at_call 9; (with_reducible refine (made_any (n := n) (by omega) (by omega) _).mono ?_); rintro r w1 ⟨q, p, g, qs, rfl, T1⟩; have HB1 := Lib.hid (HB.out.up T1.up); have HT1 := Lib.hid (show ChS w w1 q p g qs n (mem0 n) from T1.base HU0.out); have HBP := Lib.hid (show bc ∉ [p, g] by have a1 := HB1.out.ne_type T1.cha.env.mem.top (by decide); have a2 := HB1.out.ne_type T1.cha.env.mem.row (by decide); simp [a1, a2]); clear T1)
    | fail)
  clear e0 e1 e2 e3 e4 e5
  have e1 := HB1.out.cell (i := 1) (v := .int .i64 (n : Int)) rfl
  go_wp2_with (first
    | (go_at_call 12; (with_reducible refine (number_is HXA.out n64.out.1 n64.out.2 _).mono ?_); rintro r w' ⟨rfl, rfl⟩))
  clear e1
  try rw [hk]
  have HK := Lib.hid hk
  clear hk xa0 xa1
  go_loopw [10] (fun i wr => BackRel w q p g qs n k i wr) (fun i _ => (intOf i + 1).toNat)
  case atStart => exact ⟨0, (k : Int) - 1, Nat.zero_le _, by go_num, by omega, HT1.out⟩
  case round =>
    obtain ⟨j, x, hj, rfl, hx, T⟩ := hrel
    have HT := Lib.hid T
    clear T
    have x9 : x ≤ 9 := by omega
    have x1 : -1 ≤ x := by omega
    by_cases hlt : j < k
    · have i0 : (0 : Int) ≤ x := by omega
      have HJ := Lib.hid (And.intro hx (show j + 1 ≤ k from hlt))
      by_cases hj0 : j = 0
      · have g1 : x = (k : Int) - 1 := by omega
        subst g1
        have HS1 := Lib.hid (back_sets HT.out.cha kn hlt (x := (k : Int) - 1) (t := -1) (by omega) (by rw [if_pos hj0]))
        clear hx hlt
        go_wp2_with (first
          | (go_at_call 13; (with_reducible refine HS1.out.mono ?_); rintro r w2 ⟨rfl, C2, E2⟩; have HT2 := Lib.hid (HT.out.turn C2 E2); clear C2 E2))
        go_roundw
        case rel => exact ⟨j + 1, (k : Int) - 1 - 1, HJ.out.2, by go_num, by have := HJ.out.1; omega, HT2.out⟩
        case measure => simp [intOf]; omega
      · have g1 : ¬ x = (k : Int) - 1 := by omega
        have g2 : (x == (k : Int) - 1) = false := by simpa using g1
        have HS1 := Lib.hid (back_sets HT.out.cha kn hlt (x := x) (t := x + 1) (by omega) (by rw [if_neg hj0]; omega))
        clear hx hlt
        go_wp2_with (first
          | (go_at_call 13; (with_reducible refine HS1.out.mono ?_); rintro r w2 ⟨rfl, C2, E2⟩; have HT2 := Lib.hid (HT.out.turn C2 E2); clear C2 E2))
        go_roundw
        case rel => exact ⟨j + 1, x - 1, HJ.out.2, by go_num, by have := HJ.out.1; omega, HT2.out⟩
        case measure => simp [intOf]; omega
    · have i0 : ¬ (0 : Int) ≤ x := by omega
      have ej : j = k := by omega
      rw [ej] at HT
      have HT0 := HT
      clear HT hx hlt ej
      go_wp2_with fail
      go_loopw [12] (fun i wr => GoRel w q p g qs n k i wr) (fun i _ => k - (intOf i).toNat)
      case atStart => exact ⟨0, backS n k k, Nat.zero_le _, rfl, rfl, by rw [backS_c _ _ _ (by omega)]; rfl, HT0.out⟩
      case round =>
        obtain ⟨i, s, hi, rfl, hs, hc, T⟩ := hrel
        have HT := Lib.hid T
        have HS := Lib.hid hs
        have HC := Lib.hid hc
        clear T hs hc HT0
        have c0 : (0 : Int) ≤ (i : Int) := Int.natCast_nonneg _
        by_cases hik : i < k
        · have c1 : (i : Int) < (k : Int) := by omega
          go_wp2_with fail
          go_loopw [13, 14] (fun v jv wx => WantRel wr i k v jv wx) (fun _ jv _ => k - (intOf jv).toNat)
          case atStart => exact ⟨i, Nat.le_refl _, hi, rfl, by rw [Nat.sub_self]; exact Ints.nil _, fresh_nil _, Up.refl _⟩
          case round =>
            obtain ⟨m, hm0, hm1, rfl, J, F, U⟩ := hrel
            have HJ := Lib.hid J
            have HF := Lib.hid F
            have HU := Lib.hid U
            obtain ⟨d, hd⟩ : ∃ d, m - i = d := ⟨_, rfl⟩
            obtain ⟨A, cp, rfl⟩ := ints_shapeB J (m := d) (by simp [hd])
            have HD := Lib.hid hd
            have HTI := Lib.hid (HT.out.ups HU.out)
            clear J F U hd
            have m0 : (0 : Int) ≤ (m : Int) := Int.natCast_nonneg _
            by_cases hmk : m < k
            · have m1 : (m : Int) < (k : Int) := by omega
              go_wp2_with (at_builtin; refine wpList_app rfl _ _ rfl rfl rfl (HJ.out.up (Up.alloc _ _)) (rd_one _ (m : Int)) (by rw [I_len]; simp; omega) ?_; intro v5 w5 J5 G5 A5; obtain ⟨A5v, N5, c5, rfl⟩ := shapeI J5; have HJ5 := Lib.hid J5; have HU5 := Lib.hid (up_app (HU.out.then_alloc _) G5 HF.out); have HF5 := Lib.hid (fresh_app HF.out (HU.out.then_alloc (.cells #[.int .i64 (m : Int)] 3)).size A5); clear J5 G5 A5)
              go_roundw
              case rel => exact ⟨m + 1, by omega, by omega, by go_num, range_more hm0 ▸ HJ5.out, HF5.out, HU5.out⟩
              case measure => simp [intOf]; omega
            · have m1 : ¬ (m : Int) < (k : Int) := by omega
              have em : m = k := by omega
              rw [em] at HJ HD
              have HDI := Lib.hid (show ((k - i : Nat) : Int) = (d : Int) by rw [HD.out])
              have HKI := Lib.hid (show i < k from hik)
              clear em hm0 hm1 hmk
              have HWK := Lib.hid (back_walks HTI.out.cha kn n10 HKI.out HS.out HC.out)
              have g1 : ((d : Int) != (d : Int)) = false := by simp
              go_wp2_with (first
                | (go_at_call 21; (with_reducible refine HWK.out.mono ?_); rintro r w7 ⟨v7, s7, rfl, J7, C7, hx7, hc7, E7⟩; rw [HDI.out]; obtain ⟨A7, c7, rfl⟩ := ints_shapeB J7 (m := d) (by simp [HD.out]); have HT7 := Lib.hid (HTI.out.turn C7 E7); have HX7 := Lib.hid hx7; have HC7 := Lib.hid hc7; have HJ7 := Lib.hid J7; have HW7 := Lib.hid (HJ.out.else E7 (fun b hb => by simp at hb; rcases hb with rfl | rfl; exact ints_off HJ.out HTI.out.cha.env.mem.top (by decide); exact ints_off HJ.out HTI.out.cha.env.mem.row (by decide))); clear J7 C7 hx7 hc7 E7)
                | (go_at_call 18; (with_reducible refine (same_in HJ7.out.rd HW7.out.rd).mono ?_); rintro r w8 ⟨rfl, U8⟩; have HT8 := Lib.hid (HT7.out.ups U8); have HW8 := Lib.hid (HW7.out.up U8); clear U8)
                | (go_at_call 19; (with_reducible refine (back_lists HT8.out.cha kn HKI.out HX7.out).mono ?_); rintro r w9 ⟨v9, rfl, J9, F9, U9⟩; obtain ⟨A9, c9, rfl⟩ := ints_shapeB J9 (m := d) (by simp [HD.out]); have HJ9 := Lib.hid J9; have HT9 := Lib.hid (HT8.out.ups U9); have HW9 := Lib.hid (HW8.out.up U9); clear J9 F9 U9)
                | (go_at_call 18; (with_reducible refine (same_in HJ9.out.rd HW9.out.rd).mono ?_); rintro r w10 ⟨rfl, U10⟩; have HT10 := Lib.hid (HT9.out.ups U10); clear U10))
              go_roundw
              case rel => exact ⟨i + 1, s7, HKI.out, by go_num, HX7.out, HC7.out, HT10.out⟩
              case measure => have := HKI.out; simp [intOf]; omega
        · have c1 : ¬ (i : Int) < (k : Int) := by omega
          have ei : i = k := by omega
          rw [ei] at HC
          have HCC := Lib.hid (HC.out.trans HCN.out)
          have HCN2 := HCN
          clear ei hik HC HCN
          go_wp2_with (first
            | (go_at_call 24; (with_reducible refine (count_to HT.out.cha.env.mem HCC.out).mono ?_); rintro r w' ⟨rfl, rfl⟩))
          go_ret
          exact ⟨ret_bool HEQ.out, HT.out.up⟩

set_option maxRecDepth 100000 in
theorem lifted (os : Os) (started : os.Started) (H : Type) (enc : TypeId × Value → H) :
    ReturnsInHanded {} Try.checked os 4 .any (Rows.chainBackSpec.pre6 enc Try.prog Try.f4 Rows.chainBackRow.domain false) (Rows.chainBackSpec.post enc Try.prog Try.f4 false true false false) := by
  refine returnsInHanded_of_change (C := Try.checked) own started (by kernel_rfl) Try.func4
    (ChangeSpec.witness6 (enc := enc) (C := Try.checked) false ⟨#[], #[.int .i64 0, .int .i64 0], []⟩ 8 (by kernel_rfl) (by kernel_rfl) (by kernel_rfl) (by kernel_rfl)) ?_
  intro W base args ds gs before hval0 hW hcnd _
  have hval : ∀ (j : Nat) t v, Try.f4.params[j]? = some t → args[j]? = some v → Value.okWide Try.prog W .any base t v := hval0
  have hW' := hW
  obtain ⟨p, q, hA0, hV, rfl, hfz, hnd⟩ := hW
  have hA : DataW.TrodAll enc Try.prog W 0 (fun _ => true) true Try.f4.params.toList args.toList ds p := hA0
  rw [Try.params4] at hA hval
  obtain ⟨v0, vs0, d0, ds0, p0, q0, hargs, rfl, rfl, h0, r0⟩ := trodAll_cons hA
  obtain ⟨v1, vs1, d1, ds1, p1, q1, rfl, rfl, rfl, h1, r1⟩ := trodAll_cons r0
  obtain ⟨rfl, rfl, rfl⟩ := trodAll_nil r1
  obtain rfl : args = #[v0, v1] := by cases args; simp_all
  obtain ⟨rfl, rfl⟩ := trodVars_none hV
  have k0 := h0
  have lt0 : ∀ x ∈ p0, x.block < W.heap.size := by obtain ⟨m, hm⟩ := k0; exact DataW.trod_lt m _ _ _ hm
  obtain ⟨a0, rfl, rfl, rfl, w0⟩ := open_int Try.underlying3 (hval 0 3 v0 rfl rfl) h0
  have k1 := h1
  have lt1 : ∀ x ∈ p1, x.block < W.heap.size := by obtain ⟨m, hm⟩ := k1; exact DataW.trod_lt m _ _ _ hm
  obtain ⟨a1, rfl, rfl, rfl, w1⟩ := open_int Try.underlying3 (hval 1 3 v1 rfl rfl) h1
  clear hA0 hval0
  refine (walk a0 a1 W w0 w1).mono fun e W' ⟨he, bel⟩ => ?_
  subst he
  exact ⟨_, rfl, _, _, _, [], _, [], hW', trodAll_mk1 (shut_bool Try.underlying4 _), (trodAll_cons_mk (Below.trod laidOut (by kernel_rfl) (of_decide_eq_true (by kernel_rfl)) k0 bel lt0) (trodAll_cons_mk (Below.trod laidOut (by kernel_rfl) (of_decide_eq_true (by kernel_rfl)) k1 bel lt1) trodAll_mk0)), rfl, Below.frame bel _, fun h => by cases h⟩

theorem over : Rows.chainBackRow.holds Try.pinned (OpenSpec.ofChange Rows.chainBackSpec) :=
  OpenClaim.holds_of_wide 4 Try.f4 rfl rfl rfl rfl rfl rfl rfl ⟨rfl, rfl, rfl, rfl, rfl⟩ rfl rfl rfl rfl rfl (by kernel_rfl) Try.func4 (by kernel_rfl)
    (of_decide_eq_true (by kernel_rfl)) (by unfold Func.isWrapper; first | (rw [if_pos (by decide +kernel)]; kernel_rfl) | (rw [if_neg (by decide +kernel)]; exact ⟨rfl, rfl⟩))
    (fun os started H enc _ => lifted os started H enc)

/-- THE STATEMENT -/
theorem proved : Rows.ChainBackSaid := over
#print axioms proved
end Go.Proofs.Yteofgnifpkcgmaa.chainBack
