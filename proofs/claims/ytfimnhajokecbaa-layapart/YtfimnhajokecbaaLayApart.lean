/-
  LayApart: any two things that a small configuration has lie in cells of their own, within its length; What tells them apart.
-/
import Derived.Test.YtfimnhajokecbaaRows
import Derived.Test.YtfimnhajokecbaaLayCell
import Derived.Test.YtfimnhajokecbaaOpen
import Derived.WalkKit
import Derived.ProofKit
import Derived.OpenShut
import Derived.ShutString
import Derived.ChangeOld
import Derived.Below
import Derived.Carry
import Derived.Lib.SmallJoins
import Derived.Deep.DeepCutAuto
namespace Go.Proofs.Ytfimnhajokecbaa.layApart
open Go.ChangeShapes Go.WideShapes Go.ChangeAt Go.RowKit Go.Joins Go.Proofs.Ytfimnhajokecbaa W64
open Go.ChangeMaps (open_string shut_string)
set_option linter.unusedVariables false

theorem own : ownKnob Try.prog.godebug = none := by kernel_rfl
theorem laidOut : laidOutB Try.prog = true := by kernel_rfl

theorem cell_is {c : Cf} {a b d x : Int} (hm : mayB c = true) (e : cellN c a b d = x) (w : World) :
    Calls Try.prog 26 #[c.v, arrV a b d] w fun e w' => e = .returned (.int .i64 x) ∧ Up w w' := e ▸ cell_any c hm a b d w
/-- Two cells that are there: the same, or told apart. -/
theorem apart_ways {c : Cf} {x y : Int} (h0 : 0 ≤ x) (h1 : x < lenN c) (k0 : 0 ≤ y) (k1 : y < lenN c) :
    ∃ p q r s t u, whatT c x = (p, q, r) ∧ whatT c y = (s, t, u) ∧ 0 < p ∧ 0 < s ∧
      ((x = y ∧ p = s ∧ q = t ∧ r = u) ∨ (¬ x = y ∧ ¬ p = s) ∨ (¬ x = y ∧ p = s ∧ ¬ q = t) ∨ (¬ x = y ∧ p = s ∧ q = t ∧ ¬ r = u)) := by
  obtain ⟨p, q, r, e⟩ : ∃ p q r, whatT c x = (p, q, r) := ⟨_, _, _, rfl⟩
  obtain ⟨s, t, u, f⟩ : ∃ s t u, whatT c y = (s, t, u) := ⟨_, _, _, rfl⟩
  have px := what_pos h0 h1
  have py := what_pos k0 k1
  rw [e] at px
  rw [f] at py
  refine ⟨p, q, r, s, t, u, e, f, px, py, ?_⟩
  by_cases hxy : x = y
  · subst hxy
    rw [e] at f
    simp only [Prod.mk.injEq] at f
    exact .inl ⟨rfl, f.1, f.2.1, f.2.2⟩
  · by_cases h2 : p = s
    · by_cases h3 : q = t
      · by_cases h4 : r = u
        · exact absurd (what_inj h0 h1 k0 k1 (by rw [e, f, h2, h3, h4])) hxy
        · exact .inr (.inr (.inr ⟨hxy, h2, h3, h4⟩))
      · exact .inr (.inr (.inl ⟨hxy, h2, h3⟩))
    · exact .inr (.inl ⟨hxy, h2⟩)

set_option maxHeartbeats 1000000 in
set_option maxRecDepth 100000 in
theorem walk (a0 : Int) (a1_0 : Int) (a1_1 : Int) (a1_2 : Int) (a2_0 : Int) (a2_1 : Int) (a2_2 : Int) (w : World) (w0 : (Lit.int .i64 a0).wf = true) (w1_0 : (Lit.int .i64 a1_0).wf = true) (w1_1 : (Lit.int .i64 a1_1).wf = true) (w1_2 : (Lit.int .i64 a1_2).wf = true) (w2_0 : (Lit.int .i64 a2_0).wf = true) (w2_1 : (Lit.int .i64 a2_1).wf = true) (w2_2 : (Lit.int .i64 a2_2).wf = true) :
    Calls Try.prog 5 #[.int .i64 a0, .agg #[.int .i64 a1_0, .int .i64 a1_1, .int .i64 a1_2], .agg #[.int .i64 a2_0, .int .i64 a2_1, .int .i64 a2_2]] w fun e w' => e = .returned (.bool true) ∧ Up w w' := by
  clear w0 w1_0 w1_1 w1_2 w2_0 w2_1 w2_2
  go_enter Try.func5, Try.ntmps5
  go_upto_region 5 with (first
    | (go_at_call 7; refine (first_any _).mono ?_; rintro e w1 ⟨rfl, u1⟩)
    | (go_at_call 24; refine (config_any _ _).mono ?_; rintro e wA ⟨c, rfl, hs, uA⟩))
  have hat := c.at_new wA
  have V := Up.refl (wA.alloc c.box)
  have hm := hs.may
  have HM := Lib.hid hm
  have U : Up ((w.alloc (arrBox a1_0 a1_1 a1_2)).alloc (arrBox a2_0 a2_1 a2_2)) (wA.alloc c.box) := u1.trans (uA.then_alloc _)
  have Z : Up w (wA.alloc c.box) := ((Up.alloc _ _).then_alloc _).trans U
  have y0 := cell_class (U.kept (p := ⟨w.heap.size, 0, none⟩) (v := .int .i64 a1_0) (by simp))
  have y1 := cell_class (U.kept (p := ⟨w.heap.size, 1, none⟩) (v := .int .i64 a1_1) (by simp))
  have y2 := cell_class (U.kept (p := ⟨w.heap.size, 2, none⟩) (v := .int .i64 a1_2) (by simp))
  have y3 := cell_class (U.kept (p := ⟨w.heap.size + 1, 0, none⟩) (v := .int .i64 a2_0) (by simp))
  have y4 := cell_class (U.kept (p := ⟨w.heap.size + 1, 1, none⟩) (v := .int .i64 a2_1) (by simp))
  have y5 := cell_class (U.kept (p := ⟨w.heap.size + 1, 2, none⟩) (v := .int .i64 a2_2) (by simp))
  obtain ⟨g0, g1, g2, g3, g4, g5⟩ := id hat
  replace g0 := cell_class g0
  replace g1 := cell_class g1
  replace g2 := cell_class g2
  replace g3 := cell_class g3
  replace g4 := cell_class g4
  replace g5 := cell_class g5
  clear u1 uA hs U
  obtain ⟨x, X0⟩ : ∃ x, cellN c a1_0 a1_1 a1_2 = x := ⟨_, rfl⟩
  obtain ⟨y, Y0⟩ : ∃ y, cellN c a2_0 a2_1 a2_2 = y := ⟨_, rfl⟩
  obtain ⟨bx0, bx1⟩ := cellN_in hm a1_0 a1_1 a1_2
  obtain ⟨by0, by1⟩ := cellN_in hm a2_0 a2_1 a2_2
  rw [X0] at bx0 bx1
  rw [Y0] at by0 by1
  have X := Lib.hid X0
  have Y := Lib.hid Y0
  obtain ⟨p, q, r, s, t, u, E1, E2, pp, ps, A⟩ := apart_ways bx0 bx1 by0 by1
  replace E1 := Lib.hid E1
  replace E2 := Lib.hid E2
  obtain ⟨ln0, ln1⟩ := lenN_small hm
  clear X0 Y0 hm
  refine wp_region_up V (by kernel_rfl) (by kernel_rfl) ?_
  repeat (go_big_quiet_step (first
    | (go_at_call 26; (with_reducible exact up_class (cell_is HM.out X.out _)))
    | (go_at_call 26; (with_reducible exact up_class (cell_is HM.out Y.out _)))))
  refine wpQuiet_nil ?_
  rintro _ ⟨z, rfl⟩
  replace V := z.up
  clear y0 y1 y2 y3 y4 y5 X Y HM
  rcases A with ⟨hxy, hps, hqt, hru⟩ | ⟨hxy, hps⟩ | ⟨hxy, hps, hqt⟩ | ⟨hxy, hps, hqt, hru⟩
  all_goals
    try have bxy : (x == y) = false := by simpa using hxy
    try have bru : (r == u) = false := by simpa using hru
    try subst hxy
    try subst hps
    try subst hqt
    try subst hru
    go_wp2_with (first
      | (go_at_call 8; (with_reducible refine (calls_up V (what_is E1.out _)).mono ?_); rintro e wB ⟨rfl, uB⟩; replace V := uB; obtain ⟨h0, h1, h2, h3, h4, h5⟩ := hat.up uB)
      | (go_at_call 8; (with_reducible refine (calls_up V (what_is E2.out _)).mono ?_); rintro e wB ⟨rfl, uB⟩; replace V := uB; obtain ⟨h0, h1, h2, h3, h4, h5⟩ := hat.up uB)
      | (go_at_call 12; (with_reducible refine (calls_up V (len_any c _)).mono ?_); rintro e wB ⟨rfl, uB⟩; replace V := uB; obtain ⟨h0, h1, h2, h3, h4, h5⟩ := hat.up uB))
    go_ret
    exact ⟨rfl, Z.trans V⟩

set_option maxRecDepth 100000 in
theorem lifted (os : Os) (started : os.Started) (H : Type) (enc : TypeId × Value → H) :
    ReturnsInHanded {} Try.checked os 5 .any (Rows.layApartSpec.pre6 enc Try.prog Try.f5 Rows.layApartRow.domain false) (Rows.layApartSpec.post enc Try.prog Try.f5 false true false false) := by
  refine returnsInHanded_of_change (C := Try.checked) own started (by kernel_rfl) Try.func5
    (ChangeSpec.witness6 (enc := enc) (C := Try.checked) false ⟨#[], #[.int .i64 0, .agg #[.int .i64 0, .int .i64 0, .int .i64 0], .agg #[.int .i64 0, .int .i64 0, .int .i64 0]], []⟩ 8 (by kernel_rfl) (by kernel_rfl) (by kernel_rfl) (by kernel_rfl)) ?_
  intro W base args ds gs before hval0 hW hcnd _
  have hval : ∀ (j : Nat) t v, Try.f5.params[j]? = some t → args[j]? = some v → Value.okWide Try.prog W .any base t v := hval0
  have hW' := hW
  obtain ⟨p, q, hA0, hV, rfl, hfz, hnd⟩ := hW
  have hA : DataW.TrodAll enc Try.prog W 0 (fun _ => true) true Try.f5.params.toList args.toList ds p := hA0
  rw [Try.params5] at hA hval
  obtain ⟨v0, vs0, d0, ds0, p0, q0, hargs, rfl, rfl, h0, r0⟩ := trodAll_cons hA
  obtain ⟨v1, vs1, d1, ds1, p1, q1, rfl, rfl, rfl, h1, r1⟩ := trodAll_cons r0
  obtain ⟨v2, vs2, d2, ds2, p2, q2, rfl, rfl, rfl, h2, r2⟩ := trodAll_cons r1
  obtain ⟨rfl, rfl, rfl⟩ := trodAll_nil r2
  obtain rfl : args = #[v0, v1, v2] := by cases args; simp_all
  obtain ⟨rfl, rfl⟩ := trodVars_none hV
  have k0 := h0
  have lt0 : ∀ x ∈ p0, x.block < W.heap.size := by obtain ⟨m, hm⟩ := k0; exact DataW.trod_lt m _ _ _ hm
  obtain ⟨a0, rfl, rfl, rfl, w0⟩ := open_int Try.underlying3 (hval 0 3 v0 rfl rfl) h0
  have k1 := h1
  have lt1 : ∀ x ∈ p1, x.block < W.heap.size := by obtain ⟨m, hm⟩ := k1; exact DataW.trod_lt m _ _ _ hm
  obtain ⟨c1_0, c1_1, c1_2, y1_0, y1_1, y1_2, m1, rfl, rfl, rfl, hy1_0, hy1_1, hy1_2⟩ := open_arr3 Try.underlying36 (by kernel_rfl) (by kernel_rfl) (hval 1 36 v1 rfl rfl) h1
  obtain ⟨a1_0, e1_0, rfl, w1_0⟩ := DataW.trod_int Try.underlying3 hy1_0
  obtain ⟨a1_1, e1_1, rfl, w1_1⟩ := DataW.trod_int Try.underlying3 hy1_1
  obtain ⟨a1_2, e1_2, rfl, w1_2⟩ := DataW.trod_int Try.underlying3 hy1_2
  simp at e1_0 e1_1 e1_2
  subst e1_0 e1_1 e1_2
  have k2 := h2
  have lt2 : ∀ x ∈ p2, x.block < W.heap.size := by obtain ⟨m, hm⟩ := k2; exact DataW.trod_lt m _ _ _ hm
  obtain ⟨c2_0, c2_1, c2_2, y2_0, y2_1, y2_2, m2, rfl, rfl, rfl, hy2_0, hy2_1, hy2_2⟩ := open_arr3 Try.underlying36 (by kernel_rfl) (by kernel_rfl) (hval 2 36 v2 rfl rfl) h2
  obtain ⟨a2_0, e2_0, rfl, w2_0⟩ := DataW.trod_int Try.underlying3 hy2_0
  obtain ⟨a2_1, e2_1, rfl, w2_1⟩ := DataW.trod_int Try.underlying3 hy2_1
  obtain ⟨a2_2, e2_2, rfl, w2_2⟩ := DataW.trod_int Try.underlying3 hy2_2
  simp at e2_0 e2_1 e2_2
  subst e2_0 e2_1 e2_2
  clear hA0 hval0
  refine (walk a0 a1_0 a1_1 a1_2 a2_0 a2_1 a2_2 W w0 w1_0 w1_1 w1_2 w2_0 w2_1 w2_2).mono fun e W' ⟨he, bel⟩ => ?_
  subst he
  exact ⟨_, rfl, _, _, _, [], _, [], hW', trodAll_mk1 (shut_bool Try.underlying4 _), (trodAll_cons_mk (Below.trod laidOut (by kernel_rfl) (of_decide_eq_true (by kernel_rfl)) k0 bel lt0) (trodAll_cons_mk (Below.trod laidOut (by kernel_rfl) (of_decide_eq_true (by kernel_rfl)) k1 bel lt1) (trodAll_cons_mk (Below.trod laidOut (by kernel_rfl) (of_decide_eq_true (by kernel_rfl)) k2 bel lt2) trodAll_mk0))), rfl, Below.frame bel _, fun h => by cases h⟩

theorem over : Rows.layApartRow.holds Try.pinned (OpenSpec.ofChange Rows.layApartSpec) :=
  OpenClaim.holds_of_wide 5 Try.f5 rfl rfl rfl rfl rfl rfl rfl ⟨rfl, rfl, rfl, rfl, rfl⟩ rfl rfl rfl rfl rfl (by kernel_rfl) Try.func5 (by kernel_rfl)
    (of_decide_eq_true (by kernel_rfl)) (by unfold Func.isWrapper; first | (rw [if_pos (by decide +kernel)]; kernel_rfl) | (rw [if_neg (by decide +kernel)]; exact ⟨rfl, rfl⟩))
    (fun os started H enc _ => lifted os started H enc)

/-- THE STATEMENT -/
theorem proved : Rows.LayApartSaid := over
#print axioms proved
end Go.Proofs.Ytfimnhajokecbaa.layApart
