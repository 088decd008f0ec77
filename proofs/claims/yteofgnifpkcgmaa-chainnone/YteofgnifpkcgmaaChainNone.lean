/-
  Memories that are too small, configurations and chunks that are none: nothing is made, nothing told, no access.
-/
import Derived.Test.YteofgnifpkcgmaaPart11
import Derived.Test.YteofgnifpkcgmaaRows
import Derived.WalkKit
import Derived.ProofKit
import Derived.OpenShut
import Derived.ShutString
import Derived.ChangeOld
import Derived.Below
import Derived.Carry
import Derived.Lib.SmallJoins
import Derived.Deep.RegionHeldLaw
import Derived.Deep.RegionLaw
namespace Go.Proofs.Yteofgnifpkcgmaa.chainNone
open Go.ChangeShapes Go.WideShapes Go.ChangeAt Go.RowKit Go.Joins Go.Proofs.Yteofgnifpkcgmaa W64
open Go.ChangeMaps (open_string shut_string)
set_option linter.unusedVariables false

theorem own : ownKnob Try.prog.godebug = none := by kernel_rfl
theorem laidOut : laidOutB Try.prog = true := by kernel_rfl


set_option maxHeartbeats 16000000 in
set_option maxRecDepth 100000 in
theorem walk (a0 : Int) (a1 : Int) (a2 : Int) (w : World) (w0 : (Lit.int .i64 a0).wf = true) (w1 : (Lit.int .i64 a1).wf = true) (w2 : (Lit.int .i64 a2).wf = true) :
    Calls Try.prog 6 #[.int .i64 a0, .int .i64 a1, .int .i64 a2] w fun e w' => e = .returned (.bool true) ∧ Up w w' := by
  clear w0 w1 w2
  obtain ⟨x8, hx8, _, x80, x81⟩ := emod_letter a0 8 (by decide)
  obtain ⟨n, hn⟩ : ∃ n : Nat, 3 + x8 = (n : Int) := ⟨(3 + x8).toNat, by omega⟩
  have n3 : 3 ≤ n := by omega
  have n10 : n ≤ 10 := by omega
  have HX8 := Lib.hid hx8
  have HN8 := Lib.hid hn
  clear hx8 hn x80 x81
  obtain ⟨L, hL⟩ : ∃ L, 6 + 9 * n = L := ⟨_, rfl⟩
  have L1 : 33 ≤ L := by omega
  have L2 : L ≤ 96 := by omega
  have HLEN := Lib.hid (show lenN (cfM n) = (L : Int) by rw [← hL]; exact cfM_len (by omega) (by omega))
  clear hL
  obtain ⟨j, hj, _, j0, j1⟩ := emod_letter a1 ((L : Int) - 1) (by omega)
  obtain ⟨N, hN⟩ : ∃ N : Nat, 1 + j = (N : Int) := ⟨(1 + j).toNat, by omega⟩
  obtain ⟨x, hx, _, x0, x1⟩ := emod_letter a2 1000 (by decide)
  obtain ⟨z, hz, _, z0, z1⟩ := emod_letter a2 2 (by decide)
  have HJ := Lib.hid hj
  have HN := Lib.hid hN
  have HX := Lib.hid hx
  have HZ := Lib.hid hz
  have HNN := Lib.hid (show 1 ≤ N ∧ N ≤ 8388608 ∧ (N : Int) < (L : Int) by omega)
  have n64 := Lib.hid (show (0 : Int) < (L : Int) - 1 ∧ (L : Int) - 1 < 9223372036854775808 by omega)
  have zl : (St.zero N).xs.length = N := by simp [St.zero]
  have HSM := Lib.hid (show ((St.zero N).xs.length : Int) < lenN (cfM n) by rw [zl, HLEN.out]; exact HNN.out.2.2)
  have HMAY := Lib.hid (show mayB (cfM n) = true from cfM_may (by omega) (by omega))
  have HBAD := Lib.hid (show mayB ⟨1, (n : Int), 8, 1, 0, 0⟩ = false from mayB_not.2 (fun m => by have h1 := m.2.2.2.2.2.1; dsimp only at h1; omega))
  clear hj hN hx hz zl
  go_enter Try.func6, Try.ntmps6
  go_upto_region 5 with (first
    | (go_at_call 7; (with_reducible refine (first12 _).mono ?_); rintro r wA ⟨rfl, UA⟩; have HUA := Lib.hid UA; clear UA)
    | (go_at_call 8; (with_reducible refine (size_any HX8.out HN8.out _).mono ?_); rintro r wB ⟨rfl, UB⟩; have HUB := Lib.hid (HUA.out.trans UB); clear UB))
  obtain ⟨bc, hbc⟩ : ∃ bc, wB.heap.size = bc := ⟨_, rfl⟩
  have HB := Lib.hid (Whole.new wB 25 #[.int .i64 1, .int .i64 (n : Int), .int .i64 8, .int .i64 1, .int .i64 0, .int .i64 1])
  have HU0 := Lib.hid (HUB.out.then_alloc (.cells #[.int .i64 1, .int .i64 (n : Int), .int .i64 8, .int .i64 1, .int .i64 0, .int .i64 1] 25))
  rw [hbc] at HB ⊢
  clear hbc
  generalize wB.alloc (.cells #[.int .i64 1, .int .i64 (n : Int), .int .i64 8, .int .i64 1, .int .i64 0, .int .i64 1] 25) = w0 at *
  have e0 := HB.out.cell (i := 0) (v := .int .i64 1) rfl
  have e1 := HB.out.cell (i := 1) (v := .int .i64 (n : Int)) rfl
  have e2 := HB.out.cell (i := 2) (v := .int .i64 8) rfl
  have e3 := HB.out.cell (i := 3) (v := .int .i64 1) rfl
  have e4 := HB.out.cell (i := 4) (v := .int .i64 0) rfl
  have e5 := HB.out.cell (i := 5) (v := .int .i64 1) rfl
  go_upto_region 6 with (first
    | (go_at_call 9; (with_reducible refine (made_any (n := n) (by omega) (by omega) _).mono ?_); rintro r w1 ⟨q, p, g, qs, rfl, T1⟩; have HB1 := Lib.hid (HB.out.up T1.up); have HT1 := Lib.hid (show ChS w w1 q p g qs n (mem0 n) from T1.base HU0.out); clear T1)
    | fail)
  clear e0 e1 e2 e3 e4 e5
  have e0 := HB1.out.cell (i := 0) (v := .int .i64 1) rfl
  have e1 := HB1.out.cell (i := 1) (v := .int .i64 (n : Int)) rfl
  have e2 := HB1.out.cell (i := 2) (v := .int .i64 8) rfl
  have e3 := HB1.out.cell (i := 3) (v := .int .i64 1) rfl
  have e4 := HB1.out.cell (i := 4) (v := .int .i64 0) rfl
  have e5 := HB1.out.cell (i := 5) (v := .int .i64 1) rfl
  go_upto_region 9 with (first
    | (go_at_call 29; refine (len_is (c := cfM n) HLEN.out _).mono ?_; rintro r w2 ⟨rfl, U2⟩; have HT2 := Lib.hid (HT1.out.ups U2); have HB2 := Lib.hid (HB1.out.up U2); clear U2)
    | (go_at_call 12; (with_reducible refine (number_is HJ.out n64.out.1 n64.out.2 _).mono ?_); rintro r w' ⟨rfl, rfl⟩)
    | (go_at_call 28; (with_reducible refine (new_is HN.out HNN.out.1 HNN.out.2.1 _).mono ?_); rintro r w3 ⟨rfl, M3, U3⟩; have HM3 := Lib.hid M3; have HT3 := Lib.hid (HT2.out.ups U3); have HB3 := Lib.hid (HB2.out.up U3); clear M3 U3))
  clear e0 e1 e2 e3 e4 e5
  obtain ⟨g3, hg3⟩ : ∃ g, w2.heap.size = g := ⟨_, rfl⟩
  obtain ⟨p3, hp3⟩ : ∃ p, g3 + 1 = p := ⟨_, rfl⟩
  rw [hg3, hp3] at HM3 ⊢
  clear hg3 hp3
  have e0 := HB3.out.cell (i := 0) (v := .int .i64 1) rfl
  have e1 := HB3.out.cell (i := 1) (v := .int .i64 (n : Int)) rfl
  have e2 := HB3.out.cell (i := 2) (v := .int .i64 8) rfl
  have e3 := HB3.out.cell (i := 3) (v := .int .i64 1) rfl
  have e4 := HB3.out.cell (i := 4) (v := .int .i64 0) rfl
  have e5 := HB3.out.cell (i := 5) (v := .int .i64 1) rfl
  go_upto_region 10 with (first
    | (go_at_call 30; refine (chNew_small (c := cfM n) HM3.out HMAY.out HSM.out).mono ?_; rintro r w5 ⟨rfl, U5⟩; have HT5 := Lib.hid (HT3.out.ups U5); have HB5 := Lib.hid (HB3.out.up U5); clear U5))
  clear e0 e1 e2 e3 e4 e5
  have e0 := HB5.out.cell (i := 0) (v := .int .i64 1) rfl
  have e1 := HB5.out.cell (i := 1) (v := .int .i64 (n : Int)) rfl
  have e2 := HB5.out.cell (i := 2) (v := .int .i64 8) rfl
  have e3 := HB5.out.cell (i := 3) (v := .int .i64 1) rfl
  have e4 := HB5.out.cell (i := 4) (v := .int .i64 0) rfl
  have e5 := HB5.out.cell (i := 5) (v := .int .i64 1) rfl
  go_upto_region 11 with fail
  clear e0 e1 e2 e3 e4 e5
  obtain ⟨bb, hbb⟩ : ∃ bb, w5.heap.size = bb := ⟨_, rfl⟩
  have HBB := Lib.hid (Whole.new w5 25 #[.int .i64 1, .int .i64 (n : Int), .int .i64 8, .int .i64 1, .int .i64 0, .int .i64 1])
  have HT6 := Lib.hid (HT5.out.ups (Up.alloc w5 (.cells #[.int .i64 1, .int .i64 (n : Int), .int .i64 8, .int .i64 1, .int .i64 0, .int .i64 1] 25)))
  have HB6 := Lib.hid (HB5.out.up (Up.alloc w5 (.cells #[.int .i64 1, .int .i64 (n : Int), .int .i64 8, .int .i64 1, .int .i64 0, .int .i64 1] 25)))
  have HNE := Lib.hid (show w.heap.size ≤ bb ∧ bc ≠ bb from by
    have h1 := HT5.out.up.size
    have h2 := HB5.out.lt
    omega)
  have HSZ := Lib.hid (show bb = w5.heap.size from hbb.symm)
  rw [hbb] at HBB ⊢
  clear hbb
  have HUW := Lib.hid (Up.alloc w5 (.cells #[.int .i64 1, .int .i64 (n : Int), .int .i64 8, .int .i64 1, .int .i64 0, .int .i64 1] 25))
  generalize w5.alloc (.cells #[.int .i64 1, .int .i64 (n : Int), .int .i64 8, .int .i64 1, .int .i64 0, .int .i64 1] 25) = w6 at *
  have d5 := HBB.out.cell (i := 5) (v := .int .i64 1) rfl
  have f5 := HBB.out.frozen 5
  go_upto_region 12 with fail
  have HU7 := Lib.hid (show Up w5 (w6.setCell ⟨bb, 5, none⟩ (.int .i64 0)) from HUW.out.set (by rw [HSZ.out]; exact Nat.le_refl _) _)
  have HT7 := Lib.hid (HT5.out.ups HU7.out)
  have HB7 := Lib.hid (HB5.out.up HU7.out)
  have HBB7 := Lib.hid (show Whole (w6.setCell ⟨bb, 5, none⟩ (.int .i64 0)) bb 25 #[.int .i64 1, .int .i64 (n : Int), .int .i64 8, .int .i64 1, .int .i64 0, .int .i64 0] from HBB.out.set 5 _)
  clear d5 f5
  generalize w6.setCell ⟨bb, 5, none⟩ (.int .i64 0) = w7 at *
  have y0 := HBB7.out.cell (i := 0) (v := .int .i64 1) rfl
  have y1 := HBB7.out.cell (i := 1) (v := .int .i64 (n : Int)) rfl
  have y2 := HBB7.out.cell (i := 2) (v := .int .i64 8) rfl
  have y3 := HBB7.out.cell (i := 3) (v := .int .i64 1) rfl
  have y4 := HBB7.out.cell (i := 4) (v := .int .i64 0) rfl
  have y5 := HBB7.out.cell (i := 5) (v := .int .i64 0) rfl
  go_upto_region 15 with (first
    | (go_at_call 30; refine (chNew_bad (c := ⟨1, (n : Int), 8, 1, 0, 0⟩) HBAD.out _ _).mono ?_; rintro r w8 ⟨rfl, U8⟩; have HT8 := Lib.hid (HT7.out.ups U8); have HB8 := Lib.hid (HB7.out.up U8); clear U8))
  clear y0 y1 y2 y3 y4 y5
  have e1 := HB8.out.cell (i := 1) (v := .int .i64 (n : Int)) rfl
  go_quiet ((go_at_call 12; exact quiet_eq (number_is HX.out (by decide) (by decide) _)))
  clear e1
  have HT9 := Lib.hid (HT8.out.ups (Up.drewN _ nq))
  generalize w8.drewN nq = w9 at *
  have HP0 := Lib.hid (show ((0 : Nat) : Int) = 0 from rfl)
  have HM1 := Lib.hid (show ¬ ((0 : Int) ≤ -1 ∧ (-1 : Int) < (n : Int)) by omega)
  have HC0 := Lib.hid (mem0_c n)
  have n0 := Lib.hid (show 0 < n by omega)
  have HS2 := Lib.hid (fun (t : Int) (h : ¬ (-1 ≤ t ∧ t < (n : Int))) => chSet_no2 (k := 0) (bh := t) HT9.out.cha n0.out h)
  by_cases hz1 : z = 1
  · have HNA := Lib.hid (show ¬ (0 ≤ -2 - x ∧ -2 - x < (n : Int)) by omega)
    have HNB := Lib.hid (show ¬ (-1 ≤ -2 - x ∧ -2 - x < (n : Int)) by omega)
    have zb : (z == 1) = true := by simp [hz1]
    have HR := Lib.hid (HS2.out _ HNB.out)
    clear HS2
    go_wp2_with (first
      | (go_at_call 12; (with_reducible refine (number_is HZ.out (by decide) (by decide) _).mono ?_); rintro r w' ⟨rfl, rfl⟩)
      | (go_at_call 12; (with_reducible refine (number_is HX.out (by decide) (by decide) _).mono ?_); rintro r w' ⟨rfl, rfl⟩)
      | (go_at_call 31; (with_reducible refine (chSet_no1 HT9.out.cha 0 HNA.out).mono ?_); rintro r w' ⟨rfl, rfl⟩)
      | (go_at_call 31; refine HR.out.mono ?_; rintro r w' ⟨rfl, rfl⟩)
      | (go_at_call 32; (with_reducible refine (chWalk_no HT9.out.cha HNA.out).mono ?_); rintro r w' ⟨rfl, rfl⟩)
      | (go_at_call 32; (with_reducible refine (chWalk_no HT9.out.cha HM1.out).mono ?_); rintro r w' ⟨rfl, rfl⟩)
      | (go_at_call 19; (with_reducible refine (chList_no HT9.out.cha HNA.out).mono ?_); rintro r w' ⟨rfl, rfl⟩)
      | (go_at_call 19; (with_reducible refine (chList_no HT9.out.cha HM1.out).mono ?_); rintro r w' ⟨rfl, rfl⟩)
      | (go_at_call 24; (with_reducible refine (count_to HT9.out.cha.env.mem HC0.out).mono ?_); rintro r w' ⟨rfl, rfl⟩))
    go_ret
    exact ⟨rfl, HT9.out.up⟩
  · have HNA := Lib.hid (show ¬ (0 ≤ (n : Int) + x ∧ (n : Int) + x < (n : Int)) by omega)
    have HNB := Lib.hid (show ¬ (-1 ≤ (n : Int) + x ∧ (n : Int) + x < (n : Int)) by omega)
    have zb : (z == 1) = false := by simp [hz1]
    have HR := Lib.hid (HS2.out _ HNB.out)
    clear HS2
    go_wp2_with (first
      | (go_at_call 12; (with_reducible refine (number_is HZ.out (by decide) (by decide) _).mono ?_); rintro r w' ⟨rfl, rfl⟩)
      | (go_at_call 12; (with_reducible refine (number_is HX.out (by decide) (by decide) _).mono ?_); rintro r w' ⟨rfl, rfl⟩)
      | (go_at_call 31; (with_reducible refine (chSet_no1 HT9.out.cha 0 HNA.out).mono ?_); rintro r w' ⟨rfl, rfl⟩)
      | (go_at_call 31; refine HR.out.mono ?_; rintro r w' ⟨rfl, rfl⟩)
      | (go_at_call 32; (with_reducible refine (chWalk_no HT9.out.cha HNA.out).mono ?_); rintro r w' ⟨rfl, rfl⟩)
      | (go_at_call 32; (with_reducible refine (chWalk_no HT9.out.cha HM1.out).mono ?_); rintro r w' ⟨rfl, rfl⟩)
      | (go_at_call 19; (with_reducible refine (chList_no HT9.out.cha HNA.out).mono ?_); rintro r w' ⟨rfl, rfl⟩)
      | (go_at_call 19; (with_reducible refine (chList_no HT9.out.cha HM1.out).mono ?_); rintro r w' ⟨rfl, rfl⟩)
      | (go_at_call 24; (with_reducible refine (count_to HT9.out.cha.env.mem HC0.out).mono ?_); rintro r w' ⟨rfl, rfl⟩))
    go_ret
    exact ⟨rfl, HT9.out.up⟩

set_option maxRecDepth 100000 in
theorem lifted (os : Os) (started : os.Started) (H : Type) (enc : TypeId × Value → H) :
    ReturnsInHanded {} Try.checked os 6 .any (Rows.chainNoneSpec.pre6 enc Try.prog Try.f6 Rows.chainNoneRow.domain false) (Rows.chainNoneSpec.post enc Try.prog Try.f6 false true false false) := by
  refine returnsInHanded_of_change (C := Try.checked) own started (by kernel_rfl) Try.func6
    (ChangeSpec.witness6 (enc := enc) (C := Try.checked) false ⟨#[], #[.int .i64 0, .int .i64 0, .int .i64 0], []⟩ 8 (by kernel_rfl) (by kernel_rfl) (by kernel_rfl) (by kernel_rfl)) ?_
  intro W base args ds gs before hval0 hW hcnd _
  have hval : ∀ (j : Nat) t v, Try.f6.params[j]? = some t → args[j]? = some v → Value.okWide Try.prog W .any base t v := hval0
  have hW' := hW
  obtain ⟨p, q, hA0, hV, rfl, hfz, hnd⟩ := hW
  have hA : DataW.TrodAll enc Try.prog W 0 (fun _ => true) true Try.f6.params.toList args.toList ds p := hA0
  rw [Try.params6] at hA hval
  obtain ⟨v0, vs0, d0, ds0, p0, q0, hargs, rfl, rfl, h0, r0⟩ := trodAll_cons hA
  obtain ⟨v1, vs1, d1, ds1, p1, q1, rfl, rfl, rfl, h1, r1⟩ := trodAll_cons r0
  obtain ⟨v2, vs2, d2, ds2, p2, q2, rfl, rfl, rfl, h2, r2⟩ := trodAll_cons r1
  obtain ⟨rfl, rfl, rfl⟩ := trodAll_nil r2
  obtain rfl : args = #[v0, v1, v2] := by cases args; simp_all
  obtain ⟨rfl, rfl⟩ := trodVars_none hV
  have k0 := h0
  have lt0 : ∀ x ∈ p0, x.block < W.heap.size := by obtain ⟨m, hm⟩ := k0; exact DataW.trod_lt m _ _ _ hm
  obtain ⟨a0, rfl, rfl, rfl, w0⟩ := open_int Try.underlying3 (hval 0 3 v0 rfl rfl) h0
  have k1 := h1
  have lt1 : ∀ x ∈ p1, x.block < W.heap.size := by obtain ⟨m, hm⟩ := k1; exact DataW.trod_lt m _ _ _ hm
  obtain ⟨a1, rfl, rfl, rfl, w1⟩ := open_int Try.underlying3 (hval 1 3 v1 rfl rfl) h1
  have k2 := h2
  have lt2 : ∀ x ∈ p2, x.block < W.heap.size := by obtain ⟨m, hm⟩ := k2; exact DataW.trod_lt m _ _ _ hm
  obtain ⟨a2, rfl, rfl, rfl, w2⟩ := open_int Try.underlying3 (hval 2 3 v2 rfl rfl) h2
  clear hA0 hval0
  refine (walk a0 a1 a2 W w0 w1 w2).mono fun e W' ⟨he, bel⟩ => ?_
  subst he
  exact ⟨_, rfl, _, _, _, [], _, [], hW', trodAll_mk1 (shut_bool Try.underlying4 _), (trodAll_cons_mk (Below.trod laidOut (by kernel_rfl) (of_decide_eq_true (by kernel_rfl)) k0 bel lt0) (trodAll_cons_mk (Below.trod laidOut (by kernel_rfl) (of_decide_eq_true (by kernel_rfl)) k1 bel lt1) (trodAll_cons_mk (Below.trod laidOut (by kernel_rfl) (of_decide_eq_true (by kernel_rfl)) k2 bel lt2) trodAll_mk0))), rfl, Below.frame bel _, fun h => by cases h⟩

theorem over : Rows.chainNoneRow.holds Try.pinned (OpenSpec.ofChange Rows.chainNoneSpec) :=
  OpenClaim.holds_of_wide 6 Try.f6 rfl rfl rfl rfl rfl rfl rfl ⟨rfl, rfl, rfl, rfl, rfl⟩ rfl rfl rfl rfl rfl (by kernel_rfl) Try.func6 (by kernel_rfl)
    (of_decide_eq_true (by kernel_rfl)) (by unfold Func.isWrapper; first | (rw [if_pos (by decide +kernel)]; kernel_rfl) | (rw [if_neg (by decide +kernel)]; exact ⟨rfl, rfl⟩))
    (fun os started H enc _ => lifted os started H enc)

/-- THE STATEMENT -/
theorem proved : Rows.ChainNoneSaid := over
#print axioms proved
end Go.Proofs.Yteofgnifpkcgmaa.chainNone
