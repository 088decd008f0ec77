/-
  LayWhole: each cell of a small configuration, any number of it, is just one thing, and that thing is at that cell.
-/
import Derived.Test.YtfimnhajokecbaaRows
import Derived.Test.YtfimnhajokecbaaLayLaws
import Derived.Test.YtfimnhajokecbaaConfig
import Derived.Test.YtfimnhajokecbaaOpen
import Derived.WalkKit
import Derived.ProofKit
import Derived.OpenShut
import Derived.ShutString
import Derived.ChangeOld
import Derived.Below
import Derived.Carry
import Derived.Lib.SmallJoins
import Derived.Deep.DeepCutAuto
namespace Go.Proofs.Ytfimnhajokecbaa.layWhole
open Go.ChangeShapes Go.WideShapes Go.ChangeAt Go.RowKit Go.Joins Go.Proofs.Ytfimnhajokecbaa W64
open Go.ChangeMaps (open_string shut_string)
set_option linter.unusedVariables false

theorem own : ownKnob Try.prog.godebug = none := by kernel_rfl
theorem laidOut : laidOutB Try.prog = true := by kernel_rfl


set_option maxHeartbeats 8000000 in
set_option maxRecDepth 100000 in
theorem walk (a0 : Int) (a1 : Int) (w : World) (w0 : (Lit.int .i64 a0).wf = true) (w1 : (Lit.int .i64 a1).wf = true) :
    Calls Try.prog 4 #[.int .i64 a0, .int .i64 a1] w fun e w' => e = .returned (.bool true) ∧ Up w w' := by
  clear w0 w1
  go_enter Try.func4, Try.ntmps4
  go_upto_region 5 with (first
    | (go_at_call 7; refine (first_any _).mono ?_; rintro e w1 ⟨rfl, u1⟩)
    | (go_at_call 24; refine (config_any _ _).mono ?_; rintro e wA ⟨c, rfl, hs, uA⟩))
  have hat := c.at_new wA
  have V := Up.refl (wA.alloc c.box)
  have hm := hs.may
  have Z : Up w (wA.alloc c.box) := u1.trans (uA.then_alloc _)
  clear u1 uA hs
  obtain ⟨ln0, ln1⟩ := lenN_small hm
  have l0 : 0 < lenN c := by omega
  have l1 : lenN c < 9223372036854775808 := by omega
  obtain ⟨x, HX0⟩ : ∃ x, a1 % lenN c = x := ⟨_, rfl⟩
  have b0 : 0 ≤ x := HX0 ▸ Int.emod_nonneg _ (by omega)
  have b1 : x < lenN c := HX0 ▸ Int.emod_lt_of_pos _ l0
  have HX := Lib.hid HX0
  clear HX0
  rcases what_ways c x with ⟨q0, _⟩ | ⟨q0, q1, _⟩ | ⟨_, _, _, A⟩
  · omega
  · omega
  rcases A with ⟨x0, E0⟩ | ⟨rfl, E0⟩ | ⟨x0, x1, E0⟩ | ⟨x0, x1, E0⟩ | ⟨x0, x1, E0⟩ | ⟨x0, x1, E0⟩ | ⟨x0, E0⟩
  · rcases (show x = 0 ∨ x = 1 by omega) with rfl | rfl
    all_goals
      have E := Lib.hid E0
      clear E0 hm
      go_wp2_with (first
        | (go_at_call 12; (with_reducible refine (calls_up V (len_any c _)).mono ?_); rintro e wB ⟨rfl, uB⟩; replace V := uB; obtain ⟨h0, h1, h2, h3, h4, h5⟩ := hat.up uB)
        | (go_at_call 25; (with_reducible refine (number_is HX.out l0 l1 _).mono ?_); rintro e w' ⟨rfl, rfl⟩)
        | (go_at_call 8; (with_reducible refine (calls_up V (what_is E.out _)).mono ?_); rintro e wB ⟨rfl, uB⟩; replace V := uB; obtain ⟨h0, h1, h2, h3, h4, h5⟩ := hat.up uB)
        | (go_at_call 25; refine (number_any _ _ _ (by decide) (by decide)).mono ?_; rintro e w' ⟨rfl, rfl⟩))
      go_ret
      exact ⟨rfl, Z.trans (V.then_alloc _)⟩
  · have E := Lib.hid E0
    clear E0 hm
    go_wp2_with (first
      | (go_at_call 12; (with_reducible refine (calls_up V (len_any c _)).mono ?_); rintro e wB ⟨rfl, uB⟩; replace V := uB; obtain ⟨h0, h1, h2, h3, h4, h5⟩ := hat.up uB)
      | (go_at_call 25; (with_reducible refine (number_is HX.out l0 l1 _).mono ?_); rintro e w' ⟨rfl, rfl⟩)
      | (go_at_call 8; (with_reducible refine (calls_up V (what_is E.out _)).mono ?_); rintro e wB ⟨rfl, uB⟩; replace V := uB; obtain ⟨h0, h1, h2, h3, h4, h5⟩ := hat.up uB))
    go_ret
    exact ⟨rfl, Z.trans V⟩
  · have B := Lib.hid (pin_back hm x0 x1)
    have E := Lib.hid E0
    clear E0 hm
    go_wp2_with (first
      | (go_at_call 12; (with_reducible refine (calls_up V (len_any c _)).mono ?_); rintro e wB ⟨rfl, uB⟩; replace V := uB; obtain ⟨h0, h1, h2, h3, h4, h5⟩ := hat.up uB)
      | (go_at_call 25; (with_reducible refine (number_is HX.out l0 l1 _).mono ?_); rintro e w' ⟨rfl, rfl⟩)
      | (go_at_call 8; (with_reducible refine (calls_up V (what_is E.out _)).mono ?_); rintro e wB ⟨rfl, uB⟩; replace V := uB; obtain ⟨h0, h1, h2, h3, h4, h5⟩ := hat.up uB)
      | (go_at_call 14; (with_reducible refine (calls_up V (pin_is B.out _)).mono ?_); rintro e wB ⟨rfl, uB⟩; replace V := uB))
    go_ret
    exact ⟨rfl, Z.trans V⟩
  · have B := Lib.hid (root_back hm x0 x1)
    have E := Lib.hid E0
    clear E0 hm
    go_wp2_with (first
      | (go_at_call 12; (with_reducible refine (calls_up V (len_any c _)).mono ?_); rintro e wB ⟨rfl, uB⟩; replace V := uB; obtain ⟨h0, h1, h2, h3, h4, h5⟩ := hat.up uB)
      | (go_at_call 25; (with_reducible refine (number_is HX.out l0 l1 _).mono ?_); rintro e w' ⟨rfl, rfl⟩)
      | (go_at_call 8; (with_reducible refine (calls_up V (what_is E.out _)).mono ?_); rintro e wB ⟨rfl, uB⟩; replace V := uB; obtain ⟨h0, h1, h2, h3, h4, h5⟩ := hat.up uB)
      | (go_at_call 16; (with_reducible refine (calls_up V (root_is B.out _)).mono ?_); rintro e wB ⟨rfl, uB⟩; replace V := uB))
    go_ret
    exact ⟨rfl, Z.trans V⟩
  · have B := Lib.hid (slot_back hm x0 x1)
    have E := Lib.hid E0
    clear E0 hm
    go_wp2_with (first
      | (go_at_call 12; (with_reducible refine (calls_up V (len_any c _)).mono ?_); rintro e wB ⟨rfl, uB⟩; replace V := uB; obtain ⟨h0, h1, h2, h3, h4, h5⟩ := hat.up uB)
      | (go_at_call 25; (with_reducible refine (number_is HX.out l0 l1 _).mono ?_); rintro e w' ⟨rfl, rfl⟩)
      | (go_at_call 8; (with_reducible refine (calls_up V (what_is E.out _)).mono ?_); rintro e wB ⟨rfl, uB⟩; replace V := uB; obtain ⟨h0, h1, h2, h3, h4, h5⟩ := hat.up uB)
      | (go_at_call 18; (with_reducible refine (calls_up V (slot_is B.out _)).mono ?_); rintro e wB ⟨rfl, uB⟩; replace V := uB))
    go_ret
    exact ⟨rfl, Z.trans V⟩
  · have B := Lib.hid (link_back hm x0 x1)
    have E := Lib.hid E0
    clear E0 hm
    go_wp2_with (first
      | (go_at_call 12; (with_reducible refine (calls_up V (len_any c _)).mono ?_); rintro e wB ⟨rfl, uB⟩; replace V := uB; obtain ⟨h0, h1, h2, h3, h4, h5⟩ := hat.up uB)
      | (go_at_call 25; (with_reducible refine (number_is HX.out l0 l1 _).mono ?_); rintro e w' ⟨rfl, rfl⟩)
      | (go_at_call 8; (with_reducible refine (calls_up V (what_is E.out _)).mono ?_); rintro e wB ⟨rfl, uB⟩; replace V := uB; obtain ⟨h0, h1, h2, h3, h4, h5⟩ := hat.up uB)
      | (go_at_call 20; (with_reducible refine (calls_up V (link_is B.out _)).mono ?_); rintro e wB ⟨rfl, uB⟩; replace V := uB))
    go_ret
    exact ⟨rfl, Z.trans V⟩
  · have B := Lib.hid (word_back hm x0 b1)
    have E := Lib.hid E0
    clear E0 hm
    go_wp2_with (first
      | (go_at_call 12; (with_reducible refine (calls_up V (len_any c _)).mono ?_); rintro e wB ⟨rfl, uB⟩; replace V := uB; obtain ⟨h0, h1, h2, h3, h4, h5⟩ := hat.up uB)
      | (go_at_call 25; (with_reducible refine (number_is HX.out l0 l1 _).mono ?_); rintro e w' ⟨rfl, rfl⟩)
      | (go_at_call 8; (with_reducible refine (calls_up V (what_is E.out _)).mono ?_); rintro e wB ⟨rfl, uB⟩; replace V := uB; obtain ⟨h0, h1, h2, h3, h4, h5⟩ := hat.up uB)
      | (go_at_call 22; (with_reducible refine (calls_up V (word_is B.out _)).mono ?_); rintro e wB ⟨rfl, uB⟩; replace V := uB))
    go_ret
    exact ⟨rfl, Z.trans V⟩

set_option maxRecDepth 100000 in
theorem lifted (os : Os) (started : os.Started) (H : Type) (enc : TypeId × Value → H) :
    ReturnsInHanded {} Try.checked os 4 .any (Rows.layWholeSpec.pre6 enc Try.prog Try.f4 Rows.layWholeRow.domain false) (Rows.layWholeSpec.post enc Try.prog Try.f4 false true false false) := by
  refine returnsInHanded_of_change (C := Try.checked) own started (by kernel_rfl) Try.func4
    (ChangeSpec.witness6 (enc := enc) (C := Try.checked) false ⟨#[], #[.int .i64 0, .int .i64 0], []⟩ 8 (by kernel_rfl) (by kernel_rfl) (by kernel_rfl) (by kernel_rfl)) ?_
  intro W base args ds gs before hval0 hW hcnd _
  have hval : ∀ (j : Nat) t v, Try.f4.params[j]? = some t → args[j]? = some v → Value.okWide Try.prog W .any base t v := hval0
  have hW' := hW
  obtain ⟨p, q, hA0, hV, rfl, hfz, hnd⟩ := hW
  have hA : DataW.TrodAll enc Try.prog W 0 (fun _ => true) true Try.f4.params.toList args.toList ds p := hA0
  rw [Try.params4] at hA hval
  obtain ⟨v0, vs0, d0, ds0, p0, q0, hargs, rfl, rfl, h0, r0⟩ := trodAll_cons hA
  obtain ⟨v1, vs1, d1, ds1, p1, q1, rfl, rfl, rfl, h1, r1⟩ := trodAll_cons r0
  obtain ⟨rfl, rfl, rfl⟩ := trodAll_nil r1
  obtain rfl : args = #[v0, v1] := by cases args; simp_all
  obtain ⟨rfl, rfl⟩ := trodVars_none hV
  have k0 := h0
  have lt0 : ∀ x ∈ p0, x.block < W.heap.size := by obtain ⟨m, hm⟩ := k0; exact DataW.trod_lt m _ _ _ hm
  obtain ⟨a0, rfl, rfl, rfl, w0⟩ := open_int Try.underlying3 (hval 0 3 v0 rfl rfl) h0
  have k1 := h1
  have lt1 : ∀ x ∈ p1, x.block < W.heap.size := by obtain ⟨m, hm⟩ := k1; exact DataW.trod_lt m _ _ _ hm
  obtain ⟨a1, rfl, rfl, rfl, w1⟩ := open_int Try.underlying3 (hval 1 3 v1 rfl rfl) h1
  clear hA0 hval0
  refine (walk a0 a1 W w0 w1).mono fun e W' ⟨he, bel⟩ => ?_
  subst he
  exact ⟨_, rfl, _, _, _, [], _, [], hW', trodAll_mk1 (shut_bool Try.underlying4 _), (trodAll_cons_mk (Below.trod laidOut (by kernel_rfl) (of_decide_eq_true (by kernel_rfl)) k0 bel lt0) (trodAll_cons_mk (Below.trod laidOut (by kernel_rfl) (of_decide_eq_true (by kernel_rfl)) k1 bel lt1) trodAll_mk0)), rfl, Below.frame bel _, fun h => by cases h⟩

theorem over : Rows.layWholeRow.holds Try.pinned (OpenSpec.ofChange Rows.layWholeSpec) :=
  OpenClaim.holds_of_wide 4 Try.f4 rfl rfl rfl rfl rfl rfl rfl ⟨rfl, rfl, rfl, rfl, rfl⟩ rfl rfl rfl rfl rfl (by kernel_rfl) Try.func4 (by kernel_rfl)
    (of_decide_eq_true (by kernel_rfl)) (by unfold Func.isWrapper; first | (rw [if_pos (by decide +kernel)]; kernel_rfl) | (rw [if_neg (by decide +kernel)]; exact ⟨rfl, rfl⟩))
    (fun os started H enc _ => lifted os started H enc)

/-- THE STATEMENT -/
theorem proved : Rows.LayWholeSaid := over
#print axioms proved
end Go.Proofs.Ytfimnhajokecbaa.layWhole
