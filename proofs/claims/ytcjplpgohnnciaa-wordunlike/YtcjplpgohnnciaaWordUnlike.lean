/-
  Proved: two heads, two roots, two epochs that may be have the same word just if they are the same ('Rows.WordUnlikeSaid'). Conditions: none but those of the statement itself.
-/
import Derived.Test.YtcjplpgohnnciaaRows
import Derived.Test.YtcjplpgohnnciaaWordLaws
import Derived.Test.YtcjplpgohnnciaaRefWord
import Derived.WalkKit
import Derived.ProofKit
import Derived.OpenShut
import Derived.ShutString
import Derived.ChangeOld
import Derived.Below
import Derived.Carry
import Derived.Lib.SmallJoins
import Derived.Deep.DeepCutAuto
namespace Go.Proofs.Ytcjplpgohnnciaa.wordUnlike
open Go.ChangeShapes Go.WideShapes Go.ChangeAt Go.RowKit Go.Joins Go.Proofs.Ytcjplpgohnnciaa W64
open Go.ChangeMaps (open_string shut_string)
set_option linter.unusedVariables false

theorem own : ownKnob Try.prog.godebug = none := by kernel_rfl
theorem laidOut : laidOutB Try.prog = true := by kernel_rfl

theorem head_same {a b c d : Int} (hp : headB a b = true) (hq : headB c d = true) : (headV a b == headV c d) = ((a == c) && (b == d)) := by
  have h1 := headB_iff.1 hp
  have h2 := headB_iff.1 hq
  unfold headV; rw [if_pos hp, if_pos hq, Bool.eq_iff_iff, Bool.and_eq_true, beq_iff_eq, beq_iff_eq, beq_iff_eq]
  unfold headN; omega
theorem root_same {a b c d e f g h : Int} (hp : rootB a b c d = true) (hq : rootB e f g h = true) : (rootV a b c d == rootV e f g h) = ((a == e) && ((b == f) && ((c == g) && (d == h)))) := by
  have h1 := rootB_iff.1 hp
  have h2 := rootB_iff.1 hq
  unfold rootV; rw [if_pos hp, if_pos hq, Bool.eq_iff_iff, Bool.and_eq_true, Bool.and_eq_true, Bool.and_eq_true, beq_iff_eq, beq_iff_eq, beq_iff_eq, beq_iff_eq, beq_iff_eq]
  unfold rootN; omega
theorem pin_same {a b : Int} (hp : pinB a = true) (hq : pinB b = true) : ((pinV a == pinV b) == (a == b)) = true := by
  unfold pinV; rw [if_pos hp, if_pos hq, beq_iff_eq, Bool.eq_iff_iff, beq_iff_eq, beq_iff_eq]
  unfold pinN; omega

set_option maxRecDepth 100000 in
set_option maxHeartbeats 4000000 in
theorem walk (a0_0 : Int) (a0_1 : Int) (a1_0 : Int) (a1_1 : Int) (a2_0 : Int) (a2_1 : Int) (a2_2 : Int) (a2_3 : Int) (a3_0 : Int) (a3_1 : Int) (a3_2 : Int) (a3_3 : Int) (a4 : Int) (a5 : Int) (w : World) (w0_0 : (Lit.int .i64 a0_0).wf = true) (w0_1 : (Lit.int .i64 a0_1).wf = true) (w1_0 : (Lit.int .i64 a1_0).wf = true) (w1_1 : (Lit.int .i64 a1_1).wf = true) (w2_0 : (Lit.int .i64 a2_0).wf = true) (w2_1 : (Lit.int .i64 a2_1).wf = true) (w2_2 : (Lit.int .i64 a2_2).wf = true) (w2_3 : (Lit.int .i64 a2_3).wf = true) (w3_0 : (Lit.int .i64 a3_0).wf = true) (w3_1 : (Lit.int .i64 a3_1).wf = true) (w3_2 : (Lit.int .i64 a3_2).wf = true) (w3_3 : (Lit.int .i64 a3_3).wf = true) (w4 : (Lit.int .i64 a4).wf = true) (w5 : (Lit.int .i64 a5).wf = true) :
    Calls Try.prog 6 #[.agg #[.int .i64 a0_0, .int .i64 a0_1], .agg #[.int .i64 a1_0, .int .i64 a1_1], .agg #[.int .i64 a2_0, .int .i64 a2_1, .int .i64 a2_2, .int .i64 a2_3], .agg #[.int .i64 a3_0, .int .i64 a3_1, .int .i64 a3_2, .int .i64 a3_3], .int .i64 a4, .int .i64 a5] w fun e w' => e = .returned (.bool true) ∧ Up w w' := by
  clear w0_0 w0_1 w1_0 w1_1 w2_0 w2_1 w2_2 w2_3 w3_0 w3_1 w3_2 w3_3 w4 w5
  go_enter Try.func6, Try.ntmps6
  go_upto_region 6 with (first
    | (go_at_call 8; refine (first_any _).mono ?_; rintro e w1 ⟨rfl, u1⟩; have hh0 := u1.kept (p := ⟨w.heap.size, 0, none⟩) (v := .int .i64 a0_0) (((up_box2 _ _ _).then_alloc _).kept (cell_new (by simp) rfl)); have hh1 := u1.kept (p := ⟨w.heap.size, 1, none⟩) (v := .int .i64 a0_1) (((up_box2 _ _ _).then_alloc _).kept (cell_new (by simp) rfl)); have hi0 := u1.kept (p := ⟨w.heap.size + 1, 0, none⟩) (v := .int .i64 a1_0) ((up_box2 _ _ _).kept (cell_new (by simp) rfl)); have hi1 := u1.kept (p := ⟨w.heap.size + 1, 1, none⟩) (v := .int .i64 a1_1) ((up_box2 _ _ _).kept (cell_new (by simp) rfl)); have hr0 := u1.kept (p := ⟨w.heap.size + 1 + 1, 0, none⟩) (v := .int .i64 a2_0) ((Up.alloc _ _).kept (cell_new (by simp) rfl)); have hr1 := u1.kept (p := ⟨w.heap.size + 1 + 1, 1, none⟩) (v := .int .i64 a2_1) ((Up.alloc _ _).kept (cell_new (by simp) rfl)); have hr2 := u1.kept (p := ⟨w.heap.size + 1 + 1, 2, none⟩) (v := .int .i64 a2_2) ((Up.alloc _ _).kept (cell_new (by simp) rfl)); have hr3 := u1.kept (p := ⟨w.heap.size + 1 + 1, 3, none⟩) (v := .int .i64 a2_3) ((Up.alloc _ _).kept (cell_new (by simp) rfl)); have hs0 := u1.kept (p := ⟨w.heap.size + 1 + 1 + 1, 0, none⟩) (v := .int .i64 a3_0) (cell_new (by simp) rfl); have hs1 := u1.kept (p := ⟨w.heap.size + 1 + 1 + 1, 1, none⟩) (v := .int .i64 a3_1) (cell_new (by simp) rfl); have hs2 := u1.kept (p := ⟨w.heap.size + 1 + 1 + 1, 2, none⟩) (v := .int .i64 a3_2) (cell_new (by simp) rfl); have hs3 := u1.kept (p := ⟨w.heap.size + 1 + 1 + 1, 3, none⟩) (v := .int .i64 a3_3) (cell_new (by simp) rfl); have V : Up w w1 := (up_box2 _ _ _).trans ((up_box2 _ _ _).trans u1); clear u1)
    | (go_at_call 9; refine (putHead_any _ _ _).mono ?_; rintro e wA ⟨rfl, uA⟩; replace hh0 := uA.kept hh0; replace hh1 := uA.kept hh1; replace hi0 := uA.kept hi0; replace hi1 := uA.kept hi1; replace hr0 := uA.kept hr0; replace hr1 := uA.kept hr1; replace hr2 := uA.kept hr2; replace hr3 := uA.kept hr3; replace hs0 := uA.kept hs0; replace hs1 := uA.kept hs1; replace hs2 := uA.kept hs2; replace hs3 := uA.kept hs3; replace V := V.trans uA; clear uA))
  go_cut [15, 17, 43] (fun _ _ s43 wx => s43 = .bool false ∧ wA = wx)
  case first =>
    cases hp : headB a0_0 a0_1
    · go_wp2_with fail
      go_meet
      exact ⟨rfl, rfl⟩
    · cases hq : headB a1_0 a1_1
      · go_wp2_with fail
        go_meet
        exact ⟨rfl, rfl⟩
      · have hv := head_same hp hq
        cases e0 : (a0_0 == a1_0)
        · rw [e0, Bool.false_and] at hv
          go_wp2_with fail
          go_meet
          exact ⟨rfl, rfl⟩
        · cases e1 : (a0_1 == a1_1)
          · rw [e0, e1, Bool.and_false] at hv
            go_wp2_with fail
            go_meet
            exact ⟨rfl, rfl⟩
          · rw [e0, e1, Bool.and_true] at hv
            go_wp2_with fail
            go_meet
            exact ⟨rfl, rfl⟩
  case rest =>
    obtain ⟨rfl, rfl⟩ := hcut
    clear hh0 hh1 hi0 hi1
    go_upto_region 10 with (go_at_call 11; refine (putRoot_any _ _ _ _ _).mono ?_; rintro e wA ⟨rfl, uA⟩; replace hr0 := uA.kept hr0; replace hr1 := uA.kept hr1; replace hr2 := uA.kept hr2; replace hr3 := uA.kept hr3; replace hs0 := uA.kept hs0; replace hs1 := uA.kept hs1; replace hs2 := uA.kept hs2; replace hs3 := uA.kept hs3; replace V := V.trans uA; clear uA)
    go_cut [15, 17, 66] (fun _ _ s66 wx => s66 = .bool false ∧ wA = wx)
    case first =>
      cases hp : rootB a2_0 a2_1 a2_2 a2_3
      · go_wp2_with fail
        go_meet
        exact ⟨rfl, rfl⟩
      · cases hq : rootB a3_0 a3_1 a3_2 a3_3
        · go_wp2_with fail
          go_meet
          exact ⟨rfl, rfl⟩
        · have hv := root_same hp hq
          cases e0 : (a2_0 == a3_0)
          · rw [e0, Bool.false_and] at hv
            go_wp2_with fail
            go_meet
            exact ⟨rfl, rfl⟩
          · cases e1 : (a2_1 == a3_1)
            · rw [e0, e1, Bool.false_and, Bool.and_false] at hv
              go_wp2_with fail
              go_meet
              exact ⟨rfl, rfl⟩
            · cases e2 : (a2_2 == a3_2)
              · rw [e0, e1, e2, Bool.false_and, Bool.and_false, Bool.and_false] at hv
                go_wp2_with fail
                go_meet
                exact ⟨rfl, rfl⟩
              · cases e3 : (a2_3 == a3_3)
                · rw [e0, e1, e2, e3, Bool.and_false, Bool.and_false, Bool.and_false] at hv
                  go_wp2_with fail
                  go_meet
                  exact ⟨rfl, rfl⟩
                · rw [e0, e1, e2, e3, Bool.and_true, Bool.and_true, Bool.and_true] at hv
                  go_wp2_with fail
                  go_meet
                  exact ⟨rfl, rfl⟩
    case rest =>
      obtain ⟨rfl, rfl⟩ := hcut
      clear hr0 hr1 hr2 hr3 hs0 hs1 hs2 hs3
      cases hp : pinB a4
      · go_wp2_with (go_at_call 13; refine (putPin_any _ _).mono ?_; rintro e w' ⟨rfl, rfl⟩)
        go_ret
        exact ⟨rfl, V⟩
      · cases hq : pinB a5
        · go_wp2_with (go_at_call 13; refine (putPin_any _ _).mono ?_; rintro e w' ⟨rfl, rfl⟩)
          go_ret
          exact ⟨rfl, V⟩
        · have hv := pin_same hp hq
          go_wp2_with (go_at_call 13; refine (putPin_any _ _).mono ?_; rintro e w' ⟨rfl, rfl⟩)
          go_ret
          exact ⟨rfl, V⟩

set_option maxRecDepth 100000 in
theorem lifted (os : Os) (started : os.Started) (H : Type) (enc : TypeId × Value → H) :
    ReturnsInHanded {} Try.checked os 6 .any (Rows.wordUnlikeSpec.pre6 enc Try.prog Try.f6 Rows.wordUnlikeRow.domain false) (Rows.wordUnlikeSpec.post enc Try.prog Try.f6 false true false false) := by
  refine returnsInHanded_of_change (C := Try.checked) own started (by kernel_rfl) Try.func6
    (ChangeSpec.witness6 (enc := enc) (C := Try.checked) false ⟨#[], #[.agg #[.int .i64 0, .int .i64 0], .agg #[.int .i64 0, .int .i64 0], .agg #[.int .i64 0, .int .i64 0, .int .i64 0, .int .i64 0], .agg #[.int .i64 0, .int .i64 0, .int .i64 0, .int .i64 0], .int .i64 0, .int .i64 0], []⟩ 8 (by kernel_rfl) (by kernel_rfl) (by kernel_rfl) (by kernel_rfl)) ?_
  intro W base args ds gs before hval0 hW hcnd _
  have hval : ∀ (j : Nat) t v, Try.f6.params[j]? = some t → args[j]? = some v → Value.okWide Try.prog W .any base t v := hval0
  have hW' := hW
  obtain ⟨p, q, hA0, hV, rfl, hfz, hnd⟩ := hW
  have hA : DataW.TrodAll enc Try.prog W 0 (fun _ => true) true Try.f6.params.toList args.toList ds p := hA0
  rw [Try.params6] at hA hval
  obtain ⟨v0, vs0, d0, ds0, p0, q0, hargs, rfl, rfl, h0, r0⟩ := trodAll_cons hA
  obtain ⟨v1, vs1, d1, ds1, p1, q1, rfl, rfl, rfl, h1, r1⟩ := trodAll_cons r0
  obtain ⟨v2, vs2, d2, ds2, p2, q2, rfl, rfl, rfl, h2, r2⟩ := trodAll_cons r1
  obtain ⟨v3, vs3, d3, ds3, p3, q3, rfl, rfl, rfl, h3, r3⟩ := trodAll_cons r2
  obtain ⟨v4, vs4, d4, ds4, p4, q4, rfl, rfl, rfl, h4, r4⟩ := trodAll_cons r3
  obtain ⟨v5, vs5, d5, ds5, p5, q5, rfl, rfl, rfl, h5, r5⟩ := trodAll_cons r4
  obtain ⟨rfl, rfl, rfl⟩ := trodAll_nil r5
  obtain rfl : args = #[v0, v1, v2, v3, v4, v5] := by cases args; simp_all
  obtain ⟨rfl, rfl⟩ := trodVars_none hV
  have k0 := h0
  have lt0 : ∀ x ∈ p0, x.block < W.heap.size := by obtain ⟨m, hm⟩ := k0; exact DataW.trod_lt m _ _ _ hm
  obtain ⟨c0_0, c0_1, y0_0, y0_1, m0, rfl, rfl, rfl, hy0_0, hy0_1⟩ := open_agg2 Try.underlying23 (by kernel_rfl) (by kernel_rfl) (hval 0 23 v0 rfl rfl) h0
  obtain ⟨a0_0, e0_0, rfl, w0_0⟩ := DataW.trod_int Try.underlying3 hy0_0
  obtain ⟨a0_1, e0_1, rfl, w0_1⟩ := DataW.trod_int Try.underlying3 hy0_1
  simp at e0_0 e0_1
  subst e0_0 e0_1
  have k1 := h1
  have lt1 : ∀ x ∈ p1, x.block < W.heap.size := by obtain ⟨m, hm⟩ := k1; exact DataW.trod_lt m _ _ _ hm
  obtain ⟨c1_0, c1_1, y1_0, y1_1, m1, rfl, rfl, rfl, hy1_0, hy1_1⟩ := open_agg2 Try.underlying23 (by kernel_rfl) (by kernel_rfl) (hval 1 23 v1 rfl rfl) h1
  obtain ⟨a1_0, e1_0, rfl, w1_0⟩ := DataW.trod_int Try.underlying3 hy1_0
  obtain ⟨a1_1, e1_1, rfl, w1_1⟩ := DataW.trod_int Try.underlying3 hy1_1
  simp at e1_0 e1_1
  subst e1_0 e1_1
  have k2 := h2
  have lt2 : ∀ x ∈ p2, x.block < W.heap.size := by obtain ⟨m, hm⟩ := k2; exact DataW.trod_lt m _ _ _ hm
  obtain ⟨c2_0, c2_1, c2_2, c2_3, y2_0, y2_1, y2_2, y2_3, m2, rfl, rfl, rfl, hy2_0, hy2_1, hy2_2, hy2_3⟩ := open_agg4 Try.underlying25 (by kernel_rfl) (by kernel_rfl) (hval 2 25 v2 rfl rfl) h2
  obtain ⟨a2_0, e2_0, rfl, w2_0⟩ := DataW.trod_int Try.underlying3 hy2_0
  obtain ⟨a2_1, e2_1, rfl, w2_1⟩ := DataW.trod_int Try.underlying3 hy2_1
  obtain ⟨a2_2, e2_2, rfl, w2_2⟩ := DataW.trod_int Try.underlying3 hy2_2
  obtain ⟨a2_3, e2_3, rfl, w2_3⟩ := DataW.trod_int Try.underlying3 hy2_3
  simp at e2_0 e2_1 e2_2 e2_3
  subst e2_0 e2_1 e2_2 e2_3
  have k3 := h3
  have lt3 : ∀ x ∈ p3, x.block < W.heap.size := by obtain ⟨m, hm⟩ := k3; exact DataW.trod_lt m _ _ _ hm
  obtain ⟨c3_0, c3_1, c3_2, c3_3, y3_0, y3_1, y3_2, y3_3, m3, rfl, rfl, rfl, hy3_0, hy3_1, hy3_2, hy3_3⟩ := open_agg4 Try.underlying25 (by kernel_rfl) (by kernel_rfl) (hval 3 25 v3 rfl rfl) h3
  obtain ⟨a3_0, e3_0, rfl, w3_0⟩ := DataW.trod_int Try.underlying3 hy3_0
  obtain ⟨a3_1, e3_1, rfl, w3_1⟩ := DataW.trod_int Try.underlying3 hy3_1
  obtain ⟨a3_2, e3_2, rfl, w3_2⟩ := DataW.trod_int Try.underlying3 hy3_2
  obtain ⟨a3_3, e3_3, rfl, w3_3⟩ := DataW.trod_int Try.underlying3 hy3_3
  simp at e3_0 e3_1 e3_2 e3_3
  subst e3_0 e3_1 e3_2 e3_3
  have k4 := h4
  have lt4 : ∀ x ∈ p4, x.block < W.heap.size := by obtain ⟨m, hm⟩ := k4; exact DataW.trod_lt m _ _ _ hm
  obtain ⟨a4, rfl, rfl, rfl, w4⟩ := open_int Try.underlying3 (hval 4 3 v4 rfl rfl) h4
  have k5 := h5
  have lt5 : ∀ x ∈ p5, x.block < W.heap.size := by obtain ⟨m, hm⟩ := k5; exact DataW.trod_lt m _ _ _ hm
  obtain ⟨a5, rfl, rfl, rfl, w5⟩ := open_int Try.underlying3 (hval 5 3 v5 rfl rfl) h5
  clear hA0 hval0
  refine (walk a0_0 a0_1 a1_0 a1_1 a2_0 a2_1 a2_2 a2_3 a3_0 a3_1 a3_2 a3_3 a4 a5 W w0_0 w0_1 w1_0 w1_1 w2_0 w2_1 w2_2 w2_3 w3_0 w3_1 w3_2 w3_3 w4 w5).mono fun e W' ⟨he, bel⟩ => ?_
  subst he
  exact ⟨_, rfl, _, _, _, [], _, [], hW', trodAll_mk1 (shut_bool Try.underlying4 _), (trodAll_cons_mk (Below.trod laidOut (by kernel_rfl) (of_decide_eq_true (by kernel_rfl)) k0 bel lt0) (trodAll_cons_mk (Below.trod laidOut (by kernel_rfl) (of_decide_eq_true (by kernel_rfl)) k1 bel lt1) (trodAll_cons_mk (Below.trod laidOut (by kernel_rfl) (of_decide_eq_true (by kernel_rfl)) k2 bel lt2) (trodAll_cons_mk (Below.trod laidOut (by kernel_rfl) (of_decide_eq_true (by kernel_rfl)) k3 bel lt3) (trodAll_cons_mk (Below.trod laidOut (by kernel_rfl) (of_decide_eq_true (by kernel_rfl)) k4 bel lt4) (trodAll_cons_mk (Below.trod laidOut (by kernel_rfl) (of_decide_eq_true (by kernel_rfl)) k5 bel lt5) trodAll_mk0)))))), rfl, Below.frame bel _, fun h => by cases h⟩

theorem over : Rows.wordUnlikeRow.holds Try.pinned (OpenSpec.ofChange Rows.wordUnlikeSpec) :=
  OpenClaim.holds_of_wide 6 Try.f6 rfl rfl rfl rfl rfl rfl rfl ⟨rfl, rfl, rfl, rfl, rfl⟩ rfl rfl rfl rfl rfl (by kernel_rfl) Try.func6 (by kernel_rfl)
    (of_decide_eq_true (by kernel_rfl)) (by unfold Func.isWrapper; first | (rw [if_pos (by decide +kernel)]; kernel_rfl) | (rw [if_neg (by decide +kernel)]; exact ⟨rfl, rfl⟩))
    (fun os started H enc _ => lifted os started H enc)

/-- THE STATEMENT -/
theorem proved : Rows.WordUnlikeSaid := over
#print axioms proved
end Go.Proofs.Ytcjplpgohnnciaa.wordUnlike
