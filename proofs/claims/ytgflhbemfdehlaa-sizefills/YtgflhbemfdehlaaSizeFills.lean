/-
  Proved: requests one behind the other in one chunk: each that fits ends within the chunk, where the next one begins; one that stands alone never goes behind another one ('Rows.SizeFillsSaid'). Conditions: none but those of the statement itself.
-/
import Derived.Test.YtgflhbemfdehlaaRows
import Derived.Test.YtgflhbemfdehlaaSizeLaws
import Derived.WalkKit
import Derived.ProofKit
import Derived.OpenShut
import Derived.ShutString
import Derived.ChangeOld
import Derived.Below
import Derived.Carry
import Derived.Lib.SmallJoins
import Derived.Deep.DeepCutAuto
import Derived.Deep.CutRange
import Derived.Deep.RegionHeld3
import Derived.Deep.DrawnRows
import Derived.LoopTactic
import Derived.OwnWalk
import Derived.BigQuiet
import Derived.Deep.QuietTactic
namespace Go.Proofs.Ytgflhbemfdehlaa.sizeFills
open Go.ChangeShapes Go.WideShapes Go.ChangeAt Go.RowKit Go.Joins Go.Proofs.Ytgflhbemfdehlaa W64
open Go.ChangeMaps (open_string shut_string)
set_option linter.unusedVariables false

theorem own : ownKnob Try.prog.godebug = none := by kernel_rfl
theorem laidOut : laidOutB Try.prog = true := by kernel_rfl


set_option maxRecDepth 100000 in
set_option maxHeartbeats 4000000 in
theorem walk (a0 : Int) (a1 : Option Addr) (len1 cap1 : Nat) (z1 : List Int) (w : World) (w0 : (Lit.int .i64 a0).wf = true) (w1 : IsRow .i64 w a1 len1 cap1 z1) :
    Calls Try.prog 5 #[.int .i64 a0, .slice a1 len1 cap1] w fun e w' => e = .returned (.bool true) ∧ Up w w' := by
  have hl := row_len w1
  unfold maxLen at hl
  have HC := Lib.hid (fun k hk => row_cell w1 (k := k) hk)
  clear w0 w1
  obtain ⟨k, hk⟩ : ∃ k, a0 % 20 = k := ⟨_, rfl⟩
  have k0 : 0 ≤ k := by omega
  have k1 : k < 20 := by omega
  have HK := Lib.hid hk
  clear hk
  by_cases h100 : 100 < len1
  · have h101 : (100 : Int) < (len1 : Int) := by omega
    go_enter Try.func5, Try.ntmps5
    go_wp2_with (first
      | (go_at_call 7; refine (first_any _).mono ?_; rintro e wF ⟨rfl, uF⟩)
      | (go_at_call 16; (with_reducible refine (number_is HK.out (by decide) (by decide) _).mono ?_); rintro e w' ⟨rfl, rfl⟩))
    go_ret
    exact ⟨rfl, uF⟩
  · have h101 : (len1 : Int) ≤ 100 := by omega
    go_enter Try.func5, Try.ntmps5
    go_wp2_with (first
      | (go_at_call 7; refine (first_any _).mono ?_; rintro e wF ⟨rfl, uF⟩)
      | (go_at_call 16; (with_reducible refine (number_is HK.out (by decide) (by decide) _).mono ?_); rintro e w' ⟨rfl, rfl⟩))
    go_loop [6, 7] (fun v i => ∃ (o : Int) (j : Nat), j ≤ len1 ∧ 0 ≤ o ∧ o ≤ 8 + 8 * k ∧ v = .int .i64 o ∧ i = .int .i64 j) (fun _ i => len1 - (intOf i).toNat)
    case atStart => exact ⟨0, 0, Nat.zero_le _, by omega, by omega, rfl, rfl⟩
    case round =>
      obtain ⟨o, j, hj, o0, o1, rfl, rfl⟩ := hrel
      by_cases hlt : j < len1
      · obtain ⟨b, off, rfl, hb, hcl⟩ := HC.out j hlt
        replace hcl := uF.kept hcl
        obtain ⟨x, hx⟩ : ∃ x, x = z1.getD j 0 := ⟨_, rfl⟩
        rw [← hx] at hcl
        clear hx
        have i0 : (0 : Int) ≤ (j : Int) := Int.natCast_nonneg _
        have i1 : (j : Int) < (len1 : Int) := by omega
        obtain ⟨q, hq⟩ : ∃ q, x % (8 + 8 * k) = q := ⟨_, rfl⟩
        have q0 : 0 ≤ q := hq ▸ Int.emod_nonneg _ (by omega)
        have q1 : q < 8 + 8 * k := hq ▸ Int.emod_lt_of_pos _ (by omega)
        have HQ := Lib.hid hq
        clear hq
        obtain ⟨r, hr⟩ : ∃ r, roundN ((j : Int) % 4) (1 + q) = r := ⟨_, rfl⟩
        have rb : 1 ≤ r ∧ r ≤ 8 + 8 * k := hr ▸ roundN_chunk (by omega) (by omega) (by omega)
        obtain ⟨r0, r1⟩ := rb
        have HR := Lib.hid hr
        clear hr
        by_cases hal : 8 + 8 * k < 2 * r
        · have e1 := Lib.hid (fits2B_no (x := 8 + 8 * k) (o := o) (n := r) (by omega))
          have e2 := Lib.hid (aloneB_iff.2 (show (1 ≤ r ∧ r ≤ 8 + 8 * k ∧ 8 + 8 * k ≤ 1024) ∧ 8 + 8 * k - r < r by omega))
          have e3 := Lib.hid (afterN_all (x := 8 + 8 * k) (n := r) (by omega) (by omega))
          go_wp2_with (first
            | (go_at_call 16; (with_reducible refine (number_is HQ.out (by omega) (by omega) _).mono ?_); rintro e w' ⟨rfl, rfl⟩)
            | (go_at_call 8; (with_reducible refine (round_is HR.out _).mono ?_); rintro e w' ⟨rfl, rfl⟩)
            | (go_at_call 12; (with_reducible refine (fits2_is e1.out _).mono ?_); rintro e w' ⟨rfl, rfl⟩)
            | (go_at_call 10; (with_reducible refine (alone_is e2.out _).mono ?_); rintro e w' ⟨rfl, rfl⟩)
            | (go_at_call 14; (with_reducible refine (after_is e3.out _).mono ?_); rintro e w' ⟨rfl, rfl⟩))
          go_round
          case rel => exact ⟨8 + 8 * k, j + 1, by omega, by omega, by omega, rfl, by go_num⟩
          case measure => simp [intOf]; omega
        · have e2 := Lib.hid (aloneB_no (x := 8 + 8 * k) (n := r) (by omega))
          have e3 := Lib.hid (afterN_half (x := 8 + 8 * k) (n := r) (by omega) (by omega))
          by_cases hfi : o ≤ 8 + 8 * k - r
          · have e1 := Lib.hid (fits2B_iff.2 (show (1 ≤ r ∧ r ≤ 8 + 8 * k ∧ 8 + 8 * k ≤ 1024) ∧ r ≤ 8 + 8 * k - r ∧ 0 ≤ o ∧ o ≤ 8 + 8 * k - r by omega))
            have hs : o + r ≤ 8 + 8 * k := by omega
            go_wp2_with (first
              | (go_at_call 16; (with_reducible refine (number_is HQ.out (by omega) (by omega) _).mono ?_); rintro e w' ⟨rfl, rfl⟩)
              | (go_at_call 8; (with_reducible refine (round_is HR.out _).mono ?_); rintro e w' ⟨rfl, rfl⟩)
              | (go_at_call 12; (with_reducible refine (fits2_is e1.out _).mono ?_); rintro e w' ⟨rfl, rfl⟩)
              | (go_at_call 10; (with_reducible refine (alone_is e2.out _).mono ?_); rintro e w' ⟨rfl, rfl⟩)
              | (go_at_call 14; (with_reducible refine (after_is e3.out _).mono ?_); rintro e w' ⟨rfl, rfl⟩))
            go_round
            case rel => exact ⟨o + r, j + 1, by omega, by omega, by omega, by go_num, by go_num⟩
            case measure => simp [intOf]; omega
          · have e1 := Lib.hid (fits2B_no (x := 8 + 8 * k) (o := o) (n := r) (by omega))
            go_wp2_with (first
              | (go_at_call 16; (with_reducible refine (number_is HQ.out (by omega) (by omega) _).mono ?_); rintro e w' ⟨rfl, rfl⟩)
              | (go_at_call 8; (with_reducible refine (round_is HR.out _).mono ?_); rintro e w' ⟨rfl, rfl⟩)
              | (go_at_call 12; (with_reducible refine (fits2_is e1.out _).mono ?_); rintro e w' ⟨rfl, rfl⟩)
              | (go_at_call 10; (with_reducible refine (alone_is e2.out _).mono ?_); rintro e w' ⟨rfl, rfl⟩)
              | (go_at_call 14; (with_reducible refine (after_is e3.out _).mono ?_); rintro e w' ⟨rfl, rfl⟩))
            go_round
            case rel => exact ⟨r, j + 1, by omega, by omega, by omega, rfl, by go_num⟩
            case measure => simp [intOf]; omega
      · go_wp2_with fail
        go_ret
        exact ⟨rfl, uF⟩

set_option maxRecDepth 100000 in
theorem lifted (os : Os) (started : os.Started) (H : Type) (enc : TypeId × Value → H) :
    ReturnsInHanded {} Try.checked os 5 .any (Rows.sizeFillsSpec.pre6 enc Try.prog Try.f5 Rows.sizeFillsRow.domain false) (Rows.sizeFillsSpec.post enc Try.prog Try.f5 false true false false) := by
  refine returnsInHanded_of_change (C := Try.checked) own started (by kernel_rfl) Try.func5
    (ChangeSpec.witness6 (enc := enc) (C := Try.checked) false ⟨#[], #[.int .i64 0, .slice none 0 0], []⟩ 8 (by kernel_rfl) (by kernel_rfl) (by kernel_rfl) (by kernel_rfl)) ?_
  intro W base args ds gs before hval0 hW hcnd _
  have hval : ∀ (j : Nat) t v, Try.f5.params[j]? = some t → args[j]? = some v → Value.okWide Try.prog W .any base t v := hval0
  have hW' := hW
  obtain ⟨p, q, hA0, hV, rfl, hfz, hnd⟩ := hW
  have hA : DataW.TrodAll enc Try.prog W 0 (fun _ => true) true Try.f5.params.toList args.toList ds p := hA0
  rw [Try.params5] at hA hval
  obtain ⟨v0, vs0, d0, ds0, p0, q0, hargs, rfl, rfl, h0, r0⟩ := trodAll_cons hA
  obtain ⟨v1, vs1, d1, ds1, p1, q1, rfl, rfl, rfl, h1, r1⟩ := trodAll_cons r0
  obtain ⟨rfl, rfl, rfl⟩ := trodAll_nil r1
  obtain rfl : args = #[v0, v1] := by cases args; simp_all
  obtain ⟨rfl, rfl⟩ := trodVars_none hV
  have k0 := h0
  have lt0 : ∀ x ∈ p0, x.block < W.heap.size := by obtain ⟨m, hm⟩ := k0; exact DataW.trod_lt m _ _ _ hm
  obtain ⟨a0, rfl, rfl, rfl, w0⟩ := open_int Try.underlying3 (hval 0 3 v0 rfl rfl) h0
  have k1 := h1
  have lt1 : ∀ x ∈ p1, x.block < W.heap.size := by obtain ⟨m, hm⟩ := k1; exact DataW.trod_lt m _ _ _ hm
  obtain ⟨a1, len1, cap1, rfl⟩ := okWide_slice Try.underlying28 (hval 1 28 v1 rfl rfl)
  obtain ⟨z1, w1⟩ : ∃ zs, IsRow .i64 W a1 len1 cap1 zs := by
    obtain ⟨fuel, hf⟩ := h1
    rcases open_ints Try.underlying28 Try.underlying3 (by kernel_rfl) hf with ⟨hcs, _⟩ | ⟨x, l, c, zs, hcs, _, hl, hm, hz, _, hcell, hwz⟩
    · simp [Value.cells] at hcs
      obtain ⟨rfl, rfl, rfl⟩ := hcs
      exact ⟨[], .inl ⟨rfl, rfl, rfl, rfl⟩⟩
    · simp [Value.cells] at hcs
      obtain ⟨rfl, rfl, rfl⟩ := hcs
      exact ⟨zs, .inr ⟨_, rfl, hl, hm, by simpa using hz, hcell, hwz⟩⟩
  clear hA0 hval0
  refine (walk a0 a1 len1 cap1 z1 W w0 w1).mono fun e W' ⟨he, bel⟩ => ?_
  subst he
  exact ⟨_, rfl, _, _, _, [], _, [], hW', trodAll_mk1 (shut_bool Try.underlying4 _), (trodAll_cons_mk (Below.trod laidOut (by kernel_rfl) (of_decide_eq_true (by kernel_rfl)) k0 bel lt0) (trodAll_cons_mk (Below.trod laidOut (by kernel_rfl) (of_decide_eq_true (by kernel_rfl)) k1 bel lt1) trodAll_mk0)), rfl, Below.frame bel _, fun h => by cases h⟩

theorem over : Rows.sizeFillsRow.holds Try.pinned (OpenSpec.ofChange Rows.sizeFillsSpec) :=
  OpenClaim.holds_of_wide 5 Try.f5 rfl rfl rfl rfl rfl rfl rfl ⟨rfl, rfl, rfl, rfl, rfl⟩ rfl rfl rfl rfl rfl (by kernel_rfl) Try.func5 (by kernel_rfl)
    (of_decide_eq_true (by kernel_rfl)) (by unfold Func.isWrapper; first | (rw [if_pos (by decide +kernel)]; kernel_rfl) | (rw [if_neg (by decide +kernel)]; exact ⟨rfl, rfl⟩))
    (fun os started H enc _ => lifted os started H enc)

/-- THE STATEMENT -/
theorem proved : Rows.SizeFillsSaid := over
#print axioms proved
end Go.Proofs.Ytgflhbemfdehlaa.sizeFills
