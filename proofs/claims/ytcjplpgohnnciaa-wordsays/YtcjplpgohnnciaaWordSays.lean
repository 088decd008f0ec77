/-
  Proved: any head, root and epoch as a word, and any word back, are what the document's own functions answer ('Rows.WordSaysSaid'). Conditions: none but those of the statement itself.
-/
import Derived.Test.YtcjplpgohnnciaaRows
import Derived.Test.YtcjplpgohnnciaaWordLaws
import Derived.Test.YtcjplpgohnnciaaRefWord
import Derived.WalkKit
import Derived.ProofKit
import Derived.OpenShut
import Derived.ShutString
import Derived.ChangeOld
import Derived.Below
import Derived.Carry
import Derived.Lib.SmallJoins
import Derived.Deep.RegionHeld3
import Derived.Deep.DrawnRows
namespace Go.Proofs.Ytcjplpgohnnciaa.wordSays
open Go.ChangeShapes Go.WideShapes Go.ChangeAt Go.RowKit Go.Joins Go.Proofs.Ytcjplpgohnnciaa W64
open Go.ChangeMaps (open_string shut_string)
set_option linter.unusedVariables false

theorem own : ownKnob Try.prog.godebug = none := by kernel_rfl
theorem laidOut : laidOutB Try.prog = true := by kernel_rfl

attribute [local go_sem ↓] Go.wp_at_zero Go.wp_at_succ

set_option maxRecDepth 100000 in
set_option maxHeartbeats 4000000 in
theorem walk (a0_0 : Int) (a0_1 : Int) (a1_0 : Int) (a1_1 : Int) (a1_2 : Int) (a1_3 : Int) (a2 : Int) (a3 : Int) (a4 : Int) (w : World) (w0_0 : (Lit.int .i64 a0_0).wf = true) (w0_1 : (Lit.int .i64 a0_1).wf = true) (w1_0 : (Lit.int .i64 a1_0).wf = true) (w1_1 : (Lit.int .i64 a1_1).wf = true) (w1_2 : (Lit.int .i64 a1_2).wf = true) (w1_3 : (Lit.int .i64 a1_3).wf = true) (w2 : (Lit.int .i64 a2).wf = true) (w3 : (Lit.int .i64 a3).wf = true) (w4 : (Lit.int .u64 a4).wf = true) :
    Calls Try.prog 3 #[.agg #[.int .i64 a0_0, .int .i64 a0_1], .agg #[.int .i64 a1_0, .int .i64 a1_1, .int .i64 a1_2, .int .i64 a1_3], .int .i64 a2, .int .i64 a3, .int .u64 a4] w fun e w' => e = .returned (.bool true) ∧ Up w w' := by
  obtain ⟨b0, b1⟩ := u64_in w4
  clear w0_0 w0_1 w1_0 w1_1 w1_2 w1_3 w2 w3 w4
  go_enter Try.func3, Try.ntmps3
  go_wp2_with (first
    | (go_at_call 8; refine (first_any _).mono ?_; rintro e w1 ⟨rfl, u1⟩; have hh0 := u1.kept (p := ⟨w.heap.size, 0, none⟩) (v := .int .i64 a0_0) (by simp); have hh1 := u1.kept (p := ⟨w.heap.size, 1, none⟩) (v := .int .i64 a0_1) (by simp); have hr0 := u1.kept (p := ⟨w.heap.size + 1, 0, none⟩) (v := .int .i64 a1_0) (by simp); have hr1 := u1.kept (p := ⟨w.heap.size + 1, 1, none⟩) (v := .int .i64 a1_1) (by simp); have hr2 := u1.kept (p := ⟨w.heap.size + 1, 2, none⟩) (v := .int .i64 a1_2) (by simp); have hr3 := u1.kept (p := ⟨w.heap.size + 1, 3, none⟩) (v := .int .i64 a1_3) (by simp))
    | (go_at_call 9; refine (putHead_any _ _ _).mono ?_; rintro e w2 ⟨rfl, u2⟩; replace hh0 := u2.kept hh0; replace hh1 := u2.kept hh1; replace hr0 := u2.kept hr0; replace hr1 := u2.kept hr1; replace hr2 := u2.kept hr2; replace hr3 := u2.kept hr3)
    | (go_at_call 10; refine (rputHead_any _ _ _).mono ?_; rintro e w3 ⟨rfl, u3⟩; replace hh0 := u3.kept hh0; replace hh1 := u3.kept hh1; replace hr0 := u3.kept hr0; replace hr1 := u3.kept hr1; replace hr2 := u3.kept hr2; replace hr3 := u3.kept hr3)
    | (go_at_call 11; refine (putRoot_any _ _ _ _ _).mono ?_; rintro e w4 ⟨rfl, u4⟩; replace hh0 := u4.kept hh0; replace hh1 := u4.kept hh1; replace hr0 := u4.kept hr0; replace hr1 := u4.kept hr1; replace hr2 := u4.kept hr2; replace hr3 := u4.kept hr3)
    | (go_at_call 12; refine (rputRoot_any _ _ _ _ _).mono ?_; rintro e w5 ⟨rfl, u5⟩; replace hh0 := u5.kept hh0; replace hh1 := u5.kept hh1; replace hr0 := u5.kept hr0; replace hr1 := u5.kept hr1; replace hr2 := u5.kept hr2; replace hr3 := u5.kept hr3)
    | (go_at_call 13; refine (putPin_any _ _).mono ?_; rintro e w' ⟨rfl, rfl⟩)
    | (go_at_call 14; refine (rputPin_any _ _).mono ?_; rintro e w' ⟨rfl, rfl⟩)
    | (go_at_call 15; refine (getHead_any _ _ b0 b1).mono ?_; rintro e w6 ⟨rfl, u6⟩; replace hh0 := u6.kept hh0; replace hh1 := u6.kept hh1; replace hr0 := u6.kept hr0; replace hr1 := u6.kept hr1; replace hr2 := u6.kept hr2; replace hr3 := u6.kept hr3)
    | (go_at_call 16; refine (rgetHead_any _ _ b0 b1).mono ?_; rintro e w7 ⟨rfl, u7⟩; replace hh0 := u7.kept hh0; replace hh1 := u7.kept hh1; replace hr0 := u7.kept hr0; replace hr1 := u7.kept hr1; replace hr2 := u7.kept hr2; replace hr3 := u7.kept hr3)
    | (go_at_call 17; refine (getRoot_any _ _ b0 b1).mono ?_; rintro e w8 ⟨rfl, u8⟩; replace hh0 := ((up_box2 _ _ _).trans u8).kept hh0; replace hh1 := ((up_box2 _ _ _).trans u8).kept hh1; replace hr0 := ((up_box2 _ _ _).trans u8).kept hr0; replace hr1 := ((up_box2 _ _ _).trans u8).kept hr1; replace hr2 := ((up_box2 _ _ _).trans u8).kept hr2; replace hr3 := ((up_box2 _ _ _).trans u8).kept hr3; have hg0 := u8.kept (p := ⟨w7.heap.size, 0, none⟩) (v := .int .i64 (a4 % 4294967296 - 1)) (by simp); have hg1 := u8.kept (p := ⟨w7.heap.size, 1, none⟩) (v := .int .i64 (a4 / 4294967296)) (by simp); have hx0 := u8.kept (p := ⟨w7.heap.size + 1, 0, none⟩) (v := .int .i64 (a4 % 4294967296 - 1)) (by simp); have hx1 := u8.kept (p := ⟨w7.heap.size + 1, 1, none⟩) (v := .int .i64 (a4 / 4294967296)) (by simp))
    | (go_at_call 18; refine (rgetRoot_any _ _ b0 b1).mono ?_; rintro e w9 ⟨rfl, u9⟩; replace hh0 := u9.kept hh0; replace hh1 := u9.kept hh1; replace hr0 := u9.kept hr0; replace hr1 := u9.kept hr1; replace hr2 := u9.kept hr2; replace hr3 := u9.kept hr3; replace hg0 := u9.kept hg0; replace hg1 := u9.kept hg1; replace hx0 := u9.kept hx0; replace hx1 := u9.kept hx1)
    | (go_at_call 19; refine (up_of_same (getPin_any _ _ b0 b1)).mono ?_; rintro e w10 ⟨rfl, u10⟩; replace hh0 := ((up_box2 _ _ _).trans u10).kept hh0; replace hh1 := ((up_box2 _ _ _).trans u10).kept hh1; replace hr0 := ((up_box2 _ _ _).trans u10).kept hr0; replace hr1 := ((up_box2 _ _ _).trans u10).kept hr1; replace hr2 := ((up_box2 _ _ _).trans u10).kept hr2; replace hr3 := ((up_box2 _ _ _).trans u10).kept hr3; replace hg0 := ((up_box2 _ _ _).trans u10).kept hg0; replace hg1 := ((up_box2 _ _ _).trans u10).kept hg1; replace hx0 := ((up_box2 _ _ _).trans u10).kept hx0; replace hx1 := ((up_box2 _ _ _).trans u10).kept hx1; have hp0 := u10.kept (p := ⟨w9.heap.size, 0, none⟩) (v := .int .i64 (a4 / 4294967296)) (by simp); have hp1 := u10.kept (p := ⟨w9.heap.size, 1, none⟩) (v := .int .i64 (a4 / 65536 % 65536)) (by simp); have hp2 := u10.kept (p := ⟨w9.heap.size, 2, none⟩) (v := .int .i64 (a4 / 4096 % 16)) (by simp); have hp3 := u10.kept (p := ⟨w9.heap.size, 3, none⟩) (v := .int .i64 (a4 % 4096)) (by simp); have hq0 := u10.kept (p := ⟨w9.heap.size + 1, 0, none⟩) (v := .int .i64 (a4 / 4294967296)) (by simp); have hq1 := u10.kept (p := ⟨w9.heap.size + 1, 1, none⟩) (v := .int .i64 (a4 / 65536 % 65536)) (by simp); have hq2 := u10.kept (p := ⟨w9.heap.size + 1, 2, none⟩) (v := .int .i64 (a4 / 4096 % 16)) (by simp); have hq3 := u10.kept (p := ⟨w9.heap.size + 1, 3, none⟩) (v := .int .i64 (a4 % 4096)) (by simp))
    | (go_at_call 20; refine (rgetPin_any _ _ b0 b1).mono ?_; rintro e w' ⟨rfl, rfl⟩))
  have V : Up w w10 := (up_box2 _ _ _).trans (u1.trans (u2.trans (u3.trans (u4.trans (u5.trans (u6.trans (u7.trans ((up_box2 _ _ _).trans (u8.trans (u9.trans ((up_box2 _ _ _).trans u10)))))))))))
  clear hg0 hg1 hx0 hx1 hp0 hp1 hp2 hp3 hq0 hq1 hq2 hq3 hr0 hr1 hr2 hr3 u1 u2 u3 u4 u5 u6 u7 u8 u9 u10
  go_region_held3 (fun w' => w'.cell? ⟨w.heap.size, 0, none⟩ = some (.int .i64 a0_0) ∧ w'.cell? ⟨w.heap.size, 1, none⟩ = some (.int .i64 a0_1) ∧ Up w10 w')
    ((refine up_two ?_ hh0 hh1; (repeat (first | (with_reducible exact Up.refl _) | (with_reducible refine Up.then_drew ?_) | (with_reducible refine Up.then_alloc ?_ _) | refine Up.setCell ?_ (by simp) _))))
    (first
      | (go_at_call 21; refine (next_exact _ _ _ _).mono ?_; rintro e wA ⟨rfl, rfl⟩)
      | (go_at_call 22; refine (rnext_exact _ _ _ _).mono ?_; rintro e wA ⟨rfl, rfl⟩))
  all_goals
    go_wp2
    go_ret
    refine ⟨rfl, V.trans ?_⟩
    (repeat (first | (with_reducible exact Up.refl _) | (with_reducible refine Up.then_drew ?_) | (with_reducible refine Up.then_alloc ?_ _) | refine Up.setCell ?_ (by simp) _))

set_option maxRecDepth 100000 in
theorem lifted (os : Os) (started : os.Started) (H : Type) (enc : TypeId × Value → H) :
    ReturnsInHanded {} Try.checked os 3 .any (Rows.wordSaysSpec.pre6 enc Try.prog Try.f3 Rows.wordSaysRow.domain false) (Rows.wordSaysSpec.post enc Try.prog Try.f3 false true false false) := by
  refine returnsInHanded_of_change (C := Try.checked) own started (by kernel_rfl) Try.func3
    (ChangeSpec.witness6 (enc := enc) (C := Try.checked) false ⟨#[], #[.agg #[.int .i64 0, .int .i64 0], .agg #[.int .i64 0, .int .i64 0, .int .i64 0, .int .i64 0], .int .i64 0, .int .i64 0, .int .u64 0], []⟩ 8 (by kernel_rfl) (by kernel_rfl) (by kernel_rfl) (by kernel_rfl)) ?_
  intro W base args ds gs before hval0 hW hcnd _
  have hval : ∀ (j : Nat) t v, Try.f3.params[j]? = some t → args[j]? = some v → Value.okWide Try.prog W .any base t v := hval0
  have hW' := hW
  obtain ⟨p, q, hA0, hV, rfl, hfz, hnd⟩ := hW
  have hA : DataW.TrodAll enc Try.prog W 0 (fun _ => true) true Try.f3.params.toList args.toList ds p := hA0
  rw [Try.params3] at hA hval
  obtain ⟨v0, vs0, d0, ds0, p0, q0, hargs, rfl, rfl, h0, r0⟩ := trodAll_cons hA
  obtain ⟨v1, vs1, d1, ds1, p1, q1, rfl, rfl, rfl, h1, r1⟩ := trodAll_cons r0
  obtain ⟨v2, vs2, d2, ds2, p2, q2, rfl, rfl, rfl, h2, r2⟩ := trodAll_cons r1
  obtain ⟨v3, vs3, d3, ds3, p3, q3, rfl, rfl, rfl, h3, r3⟩ := trodAll_cons r2
  obtain ⟨v4, vs4, d4, ds4, p4, q4, rfl, rfl, rfl, h4, r4⟩ := trodAll_cons r3
  obtain ⟨rfl, rfl, rfl⟩ := trodAll_nil r4
  obtain rfl : args = #[v0, v1, v2, v3, v4] := by cases args; simp_all
  obtain ⟨rfl, rfl⟩ := trodVars_none hV
  have k0 := h0
  have lt0 : ∀ x ∈ p0, x.block < W.heap.size := by obtain ⟨m, hm⟩ := k0; exact DataW.trod_lt m _ _ _ hm
  obtain ⟨c0_0, c0_1, y0_0, y0_1, m0, rfl, rfl, rfl, hy0_0, hy0_1⟩ := open_agg2 Try.underlying23 (by kernel_rfl) (by kernel_rfl) (hval 0 23 v0 rfl rfl) h0
  obtain ⟨a0_0, e0_0, rfl, w0_0⟩ := DataW.trod_int Try.underlying3 hy0_0
  obtain ⟨a0_1, e0_1, rfl, w0_1⟩ := DataW.trod_int Try.underlying3 hy0_1
  simp at e0_0 e0_1
  subst e0_0 e0_1
  have k1 := h1
  have lt1 : ∀ x ∈ p1, x.block < W.heap.size := by obtain ⟨m, hm⟩ := k1; exact DataW.trod_lt m _ _ _ hm
  obtain ⟨c1_0, c1_1, c1_2, c1_3, y1_0, y1_1, y1_2, y1_3, m1, rfl, rfl, rfl, hy1_0, hy1_1, hy1_2, hy1_3⟩ := open_agg4 Try.underlying25 (by kernel_rfl) (by kernel_rfl) (hval 1 25 v1 rfl rfl) h1
  obtain ⟨a1_0, e1_0, rfl, w1_0⟩ := DataW.trod_int Try.underlying3 hy1_0
  obtain ⟨a1_1, e1_1, rfl, w1_1⟩ := DataW.trod_int Try.underlying3 hy1_1
  obtain ⟨a1_2, e1_2, rfl, w1_2⟩ := DataW.trod_int Try.underlying3 hy1_2
  obtain ⟨a1_3, e1_3, rfl, w1_3⟩ := DataW.trod_int Try.underlying3 hy1_3
  simp at e1_0 e1_1 e1_2 e1_3
  subst e1_0 e1_1 e1_2 e1_3
  have k2 := h2
  have lt2 : ∀ x ∈ p2, x.block < W.heap.size := by obtain ⟨m, hm⟩ := k2; exact DataW.trod_lt m _ _ _ hm
  obtain ⟨a2, rfl, rfl, rfl, w2⟩ := open_int Try.underlying3 (hval 2 3 v2 rfl rfl) h2
  have k3 := h3
  have lt3 : ∀ x ∈ p3, x.block < W.heap.size := by obtain ⟨m, hm⟩ := k3; exact DataW.trod_lt m _ _ _ hm
  obtain ⟨a3, rfl, rfl, rfl, w3⟩ := open_int Try.underlying3 (hval 3 3 v3 rfl rfl) h3
  have k4 := h4
  have lt4 : ∀ x ∈ p4, x.block < W.heap.size := by obtain ⟨m, hm⟩ := k4; exact DataW.trod_lt m _ _ _ hm
  obtain ⟨a4, rfl, rfl, rfl, w4⟩ := open_int Try.underlying26 (hval 4 26 v4 rfl rfl) h4
  clear hA0 hval0
  refine (walk a0_0 a0_1 a1_0 a1_1 a1_2 a1_3 a2 a3 a4 W w0_0 w0_1 w1_0 w1_1 w1_2 w1_3 w2 w3 w4).mono fun e W' ⟨he, bel⟩ => ?_
  subst he
  exact ⟨_, rfl, _, _, _, [], _, [], hW', trodAll_mk1 (shut_bool Try.underlying4 _), (trodAll_cons_mk (Below.trod laidOut (by kernel_rfl) (of_decide_eq_true (by kernel_rfl)) k0 bel lt0) (trodAll_cons_mk (Below.trod laidOut (by kernel_rfl) (of_decide_eq_true (by kernel_rfl)) k1 bel lt1) (trodAll_cons_mk (Below.trod laidOut (by kernel_rfl) (of_decide_eq_true (by kernel_rfl)) k2 bel lt2) (trodAll_cons_mk (Below.trod laidOut (by kernel_rfl) (of_decide_eq_true (by kernel_rfl)) k3 bel lt3) (trodAll_cons_mk (Below.trod laidOut (by kernel_rfl) (of_decide_eq_true (by kernel_rfl)) k4 bel lt4) trodAll_mk0))))), rfl, Below.frame bel _, fun h => by cases h⟩

theorem over : Rows.wordSaysRow.holds Try.pinned (OpenSpec.ofChange Rows.wordSaysSpec) :=
  OpenClaim.holds_of_wide 3 Try.f3 rfl rfl rfl rfl rfl rfl rfl ⟨rfl, rfl, rfl, rfl, rfl⟩ rfl rfl rfl rfl rfl (by kernel_rfl) Try.func3 (by kernel_rfl)
    (of_decide_eq_true (by kernel_rfl)) (by unfold Func.isWrapper; first | (rw [if_pos (by decide +kernel)]; kernel_rfl) | (rw [if_neg (by decide +kernel)]; exact ⟨rfl, rfl⟩))
    (fun os started H enc _ => lifted os started H enc)

/-- THE STATEMENT -/
theorem proved : Rows.WordSaysSaid := over
#print axioms proved
end Go.Proofs.Ytcjplpgohnnciaa.wordSays
