/-
  Links that go round, links beyond the last chunk: each list ends, with as many as there are chunks at most.
-/
import Derived.Test.YteofgnifpkcgmaaPart12
import Derived.Test.YteofgnifpkcgmaaRows
import Derived.WalkKit
import Derived.ProofKit
import Derived.OpenShut
import Derived.ShutString
import Derived.ChangeOld
import Derived.Below
import Derived.Carry
import Derived.Lib.SmallJoins
import Derived.Deep.RegionHeldLaw
import Derived.Deep.RegionLaw
namespace Go.Proofs.Yteofgnifpkcgmaa.chainEnds
open Go.ChangeShapes Go.WideShapes Go.ChangeAt Go.RowKit Go.Joins Go.Proofs.Yteofgnifpkcgmaa W64
open Go.ChangeMaps (open_string shut_string)
set_option linter.unusedVariables false

theorem own : ownKnob Try.prog.godebug = none := by kernel_rfl
theorem laidOut : laidOutB Try.prog = true := by kernel_rfl


set_option maxHeartbeats 16000000 in
set_option maxRecDepth 100000 in
theorem walk (a0 : Int) (a1 : Int) (a2 : Int) (w : World) (w0 : (Lit.int .i64 a0).wf = true) (w1 : (Lit.int .i64 a1).wf = true) (w2 : (Lit.int .u64 a2).wf = true) :
    Calls Try.prog 5 #[.int .i64 a0, .int .i64 a1, .int .u64 a2] w fun e w' => e = .returned (.bool true) ∧ Up w w' := by
  clear w0 w1
  obtain ⟨x8, hx8, _, x80, x81⟩ := emod_letter a0 8 (by decide)
  obtain ⟨n, hn⟩ : ∃ n : Nat, 3 + x8 = (n : Int) := ⟨(3 + x8).toNat, by omega⟩
  have n3 : 3 ≤ n := by omega
  have n10 : n ≤ 10 := by omega
  have HX8 := Lib.hid hx8
  have HN8 := Lib.hid hn
  clear hx8 hn x80 x81
  have hb2 := u64_in w2
  clear w2
  obtain ⟨xa, hxa, _, xa0, xa1⟩ := emod_letter a1 (n : Int) (by omega)
  obtain ⟨a, rfl⟩ : ∃ a : Nat, xa = a := ⟨xa.toNat, by omega⟩
  have HXA := Lib.hid hxa
  have HAN := Lib.hid (show a < n by omega)
  have n64 := Lib.hid (show (0 : Int) < (n : Int) ∧ (n : Int) < 9223372036854775808 by omega)
  have HLK := Lib.hid (show llinkN (cfM n) (a : Int) = ((6 + a : Nat) : Int) by
    unfold llinkN; rw [atN_is (cfM_may (by omega) (by omega)) (by omega) (by dsimp only; omega)]; dsimp only; omega)
  obtain ⟨BB, hBB⟩ : ∃ BB : Int, (if a2 ≤ (n : Int) then a2 + n + 1 else a2) = BB := ⟨_, rfl⟩
  have hB : (n : Int) < BB ∧ BB < 18446744073709551616 := by rw [← hBB]; split <;> omega
  obtain ⟨s1, P0, P1, P2, P3, P4, P5, P6⟩ := ends_pack (a := a) (n := n) (B := BB) HAN.out n10 hB.1 hB.2
  have H0 := Lib.hid P0
  have H1 := Lib.hid P1
  have H2 := Lib.hid P2
  have H3 := Lib.hid P3
  have H4 := Lib.hid P4
  have H5 := Lib.hid P5
  have H6 := Lib.hid P6
  clear P0 P1 P2 P3 P4 P5 P6 hxa hB xa0 xa1
  go_enter Try.func5, Try.ntmps5
  go_upto_region 5 with (first
    | (go_at_call 7; (with_reducible refine (first12 _).mono ?_); rintro r wA ⟨rfl, UA⟩; have HUA := Lib.hid UA; clear UA)
    | (go_at_call 8; (with_reducible refine (size_any HX8.out HN8.out _).mono ?_); rintro r wB ⟨rfl, UB⟩; have HUB := Lib.hid (HUA.out.trans UB); clear UB))
  obtain ⟨bc, hbc⟩ : ∃ bc, wB.heap.size = bc := ⟨_, rfl⟩
  have HB := Lib.hid (Whole.new wB 25 #[.int .i64 1, .int .i64 (n : Int), .int .i64 8, .int .i64 1, .int .i64 0, .int .i64 1])
  have HU0 := Lib.hid (HUB.out.then_alloc (.cells #[.int .i64 1, .int .i64 (n : Int), .int .i64 8, .int .i64 1, .int .i64 0, .int .i64 1] 25))
  rw [hbc] at HB ⊢
  clear hbc
  generalize wB.alloc (.cells #[.int .i64 1, .int .i64 (n : Int), .int .i64 8, .int .i64 1, .int .i64 0, .int .i64 1] 25) = w0 at *
  have e0 := HB.out.cell (i := 0) (v := .int .i64 1) rfl
  have e1 := HB.out.cell (i := 1) (v := .int .i64 (n : Int)) rfl
  have e2 := HB.out.cell (i := 2) (v := .int .i64 8) rfl
  have e3 := HB.out.cell (i := 3) (v := .int .i64 1) rfl
  have e4 := HB.out.cell (i := 4) (v := .int .i64 0) rfl
  have e5 := HB.out.cell (i := 5) (v := .int .i64 1) rfl
  go_upto_region 6 with (first
    | (go_at_call 9; (with_reducible refine (made_any (n := n) (by omega) (by omega) _).mono ?_); rintro r w1 ⟨q, p, g, qs, rfl, T1⟩; have HB1 := Lib.hid (HB.out.up T1.up); have HT1 := Lib.hid (show ChS w w1 q p g qs n (mem0 n) from T1.base HU0.out); have HBP := Lib.hid (show bc ∉ [p, g] by have a1 := HB1.out.ne_type T1.cha.env.mem.top (by decide); have a2 := HB1.out.ne_type T1.cha.env.mem.row (by decide); simp [a1, a2]); clear T1)
    | fail)
  clear e0 e1 e2 e3 e4 e5
  have e1 := HB1.out.cell (i := 1) (v := .int .i64 (n : Int)) rfl
  go_upto_region 12 with (first
    | (go_at_call 12; (with_reducible refine (number_is HXA.out n64.out.1 n64.out.2 _).mono ?_); rintro r w' ⟨rfl, rfl⟩)
    | (go_at_call 13; (with_reducible refine (H1.out _ _ _ _ _ HT1.out.cha).mono ?_); rintro r w2 ⟨rfl, C2, E2⟩; have HT2 := Lib.hid (HT1.out.turn C2 E2); have HB2 := Lib.hid (E2.whole HB1.out HBP.out); clear C2 E2)
    | (go_at_call 21; (with_reducible refine (H2.out _ _ _ _ _ HT2.out.cha).mono ?_); rintro r w3 ⟨v3, s3, rfl, J3, F3, C3, hx3, hc3, E3⟩; obtain ⟨A3, c3, rfl⟩ := ints_shape J3 (m := n) (by simp); have HT3 := Lib.hid (HT2.out.turn C3 E3); have HB3 := Lib.hid (E3.whole HB2.out HBP.out); have HJ3 := Lib.hid J3; have HX3 := Lib.hid hx3; have HC3 := Lib.hid hc3; clear J3 F3 C3 hx3 hc3 E3))
  clear e1
  have HE := Lib.hid (show w3.drew.cell? ⟨bc, 1, none⟩ = some (.int .i64 (n : Int)) from HB3.out.cell rfl)
  go_region_held3 (fun w' => w'.cell? ⟨bc, 1, none⟩ = some (.int .i64 (n : Int)))
    ((first | with_reducible exact HE4.out | with_reducible exact HE.out))
    (first
      | (go_at_call 19; (with_reducible refine (H3.out _ _ _ _ _ _ HX3.out (HT3.out.ups (up_drew w3)).cha).mono ?_); rintro r w4 ⟨v4, rfl, J4, F4, U4⟩; obtain ⟨A4, c4, rfl⟩ := ints_shape J4 (m := n) (by simp); have HU4 := Lib.hid ((up_drew w3).trans U4); have HE4 := Lib.hid (show w4.cell? ⟨bc, 1, none⟩ = some (.int .i64 (n : Int)) from U4.kept HE.out); clear J4 F4 U4))
  have HT4 := Lib.hid (HT3.out.ups HU4.out)
  have HB4 := Lib.hid (HB3.out.up HU4.out)
  have HJ4 := Lib.hid (HJ3.out.up HU4.out)
  clear HE HE4
  go_wp2_with fail
  go_loopw [14] (fun i wr => StillRel w4 n i wr) (fun i _ => n - (intOf i).toNat)
  case atStart => exact ⟨rfl, 0, Nat.zero_le _, rfl⟩
  case round =>
    obtain ⟨rfl, j, hj, rfl⟩ := hrel
    have i0 : (0 : Int) ≤ (j : Int) := Int.natCast_nonneg _
    by_cases hlt : j < n
    · have i1 : (j : Int) < (n : Int) := by omega
      obtain ⟨gg, off, rfl, hc⟩ := HJ4.out.rd.cell (j := j) (by simp [I]; exact hlt)
      rw [I_get (by simp; exact hlt), show (List.replicate n a).getD j 0 = a by simp [List.getD, hlt]] at hc
      have g1 : ((a : Int) != (a : Int)) = false := by simp
      go_wp2_with fail
      go_roundw
      case rel => exact ⟨rfl, j + 1, by omega, by go_num⟩
      case measure => simp [intOf]; omega
    · have i1 : ¬ (j : Int) < (n : Int) := by omega
      have e0 := HB4.out.cell (i := 0) (v := .int .i64 1) rfl
      have e1 := HB4.out.cell (i := 1) (v := .int .i64 (n : Int)) rfl
      have e2 := HB4.out.cell (i := 2) (v := .int .i64 8) rfl
      have e3 := HB4.out.cell (i := 3) (v := .int .i64 1) rfl
      have e4 := HB4.out.cell (i := 4) (v := .int .i64 0) rfl
      have e5 := HB4.out.cell (i := 5) (v := .int .i64 1) rfl
      have k1 : IntKind.u64.wrap (n : Int) = (n : Int) := IntWalk.u64_in _ (by omega)
      have HBB := Lib.hid hBB
      clear hBB hlt
      by_cases hle : a2 ≤ (n : Int)
      · have hBB2 := HBB.out
        rw [if_pos hle] at hBB2
        have k2 : IntKind.u64.wrap (a2 + (n : Int)) = a2 + n := IntWalk.u64_in _ (by omega)
        have k3 : IntKind.u64.wrap (a2 + (n : Int) + 1) = BB := by rw [← hBB2]; exact IntWalk.u64_in _ (by omega)
        clear hBB2
        clear HBB
        go_wp2_with (first
          | (go_at_call 16; refine (link_is HLK.out _).mono ?_; rintro r w5 ⟨rfl, U5⟩; have HT5 := Lib.hid (HT4.out.ups U5); clear U5)
          | (go_at_call 27; refine (H4.out _ _ _ _ _ _ HX3.out HT5.out.cha).mono ?_; rintro r w6 ⟨rfl, ⟨s6, hc6, hx6, C6⟩, E6⟩; have HT6 := Lib.hid (HT5.out.turn C6 E6); have HX6 := Lib.hid hx6; have HC6 := Lib.hid (hc6.trans HC3.out); clear hc6 hx6 C6 E6)
          | (go_at_call 21; (with_reducible refine (H5.out _ _ _ _ _ _ HC6.out HX6.out HT6.out.cha).mono ?_); rintro r w7 ⟨v7, s7, rfl, J7, F7, C7, hx7, E7⟩; obtain ⟨A7, N7, c7, rfl⟩ := shapeI J7; have HT7 := Lib.hid (HT6.out.turn C7 E7); have HX7 := Lib.hid (hx7.trans HX6.out); have HSA := Lib.hid (J7.rd.up (Up.alloc w7 (.cells #[.int .i64 (a : Int)] 3))); have HSB := Lib.hid (rd_one w7 (a : Int)); clear J7 F7 C7 hx7 E7)
          | (go_at_call 18; (with_reducible refine (same_in HSA.out HSB.out).mono ?_); rintro r w8 ⟨rfl, U8⟩; have HT8 := Lib.hid (HT7.out.ups ((Up.alloc w7 (.cells #[.int .i64 (a : Int)] 3)).trans U8)); clear U8)
          | (go_at_call 19; (with_reducible refine (H6.out _ _ _ _ _ _ HX7.out HT8.out.cha).mono ?_); rintro r w9 ⟨v9, rfl, J9, F9, U9⟩; obtain ⟨A9, N9, c9, rfl⟩ := shapeI J9; have HT9 := Lib.hid (HT8.out.ups U9); have HSC := Lib.hid (J9.rd.up (Up.alloc w9 (.cells #[.int .i64 (a : Int)] 3))); have HSD := Lib.hid (rd_one w9 (a : Int)); clear J9 F9 U9)
          | (go_at_call 18; (with_reducible refine (same_in HSC.out HSD.out).mono ?_); rintro r w10 ⟨rfl, U10⟩; have HU10 := Lib.hid (HT9.out.up.trans ((Up.alloc w9 (.cells #[.int .i64 (a : Int)] 3)).trans U10)); clear U10))
        go_ret
        exact ⟨rfl, HU10.out⟩
      · have hBB2 := HBB.out
        rw [if_neg hle] at hBB2
        subst hBB2
        clear HBB
        go_wp2_with (first
          | (go_at_call 16; refine (link_is HLK.out _).mono ?_; rintro r w5 ⟨rfl, U5⟩; have HT5 := Lib.hid (HT4.out.ups U5); clear U5)
          | (go_at_call 27; refine (H4.out _ _ _ _ _ _ HX3.out HT5.out.cha).mono ?_; rintro r w6 ⟨rfl, ⟨s6, hc6, hx6, C6⟩, E6⟩; have HT6 := Lib.hid (HT5.out.turn C6 E6); have HX6 := Lib.hid hx6; have HC6 := Lib.hid (hc6.trans HC3.out); clear hc6 hx6 C6 E6)
          | (go_at_call 21; (with_reducible refine (H5.out _ _ _ _ _ _ HC6.out HX6.out HT6.out.cha).mono ?_); rintro r w7 ⟨v7, s7, rfl, J7, F7, C7, hx7, E7⟩; obtain ⟨A7, N7, c7, rfl⟩ := shapeI J7; have HT7 := Lib.hid (HT6.out.turn C7 E7); have HX7 := Lib.hid (hx7.trans HX6.out); have HSA := Lib.hid (J7.rd.up (Up.alloc w7 (.cells #[.int .i64 (a : Int)] 3))); have HSB := Lib.hid (rd_one w7 (a : Int)); clear J7 F7 C7 hx7 E7)
          | (go_at_call 18; (with_reducible refine (same_in HSA.out HSB.out).mono ?_); rintro r w8 ⟨rfl, U8⟩; have HT8 := Lib.hid (HT7.out.ups ((Up.alloc w7 (.cells #[.int .i64 (a : Int)] 3)).trans U8)); clear U8)
          | (go_at_call 19; (with_reducible refine (H6.out _ _ _ _ _ _ HX7.out HT8.out.cha).mono ?_); rintro r w9 ⟨v9, rfl, J9, F9, U9⟩; obtain ⟨A9, N9, c9, rfl⟩ := shapeI J9; have HT9 := Lib.hid (HT8.out.ups U9); have HSC := Lib.hid (J9.rd.up (Up.alloc w9 (.cells #[.int .i64 (a : Int)] 3))); have HSD := Lib.hid (rd_one w9 (a : Int)); clear J9 F9 U9)
          | (go_at_call 18; (with_reducible refine (same_in HSC.out HSD.out).mono ?_); rintro r w10 ⟨rfl, U10⟩; have HU10 := Lib.hid (HT9.out.up.trans ((Up.alloc w9 (.cells #[.int .i64 (a : Int)] 3)).trans U10)); clear U10))
        go_ret
        exact ⟨rfl, HU10.out⟩

set_option maxRecDepth 100000 in
theorem lifted (os : Os) (started : os.Started) (H : Type) (enc : TypeId × Value → H) :
    ReturnsInHanded {} Try.checked os 5 .any (Rows.chainEndsSpec.pre6 enc Try.prog Try.f5 Rows.chainEndsRow.domain false) (Rows.chainEndsSpec.post enc Try.prog Try.f5 false true false false) := by
  refine returnsInHanded_of_change (C := Try.checked) own started (by kernel_rfl) Try.func5
    (ChangeSpec.witness6 (enc := enc) (C := Try.checked) false ⟨#[], #[.int .i64 0, .int .i64 0, .int .u64 0], []⟩ 8 (by kernel_rfl) (by kernel_rfl) (by kernel_rfl) (by kernel_rfl)) ?_
  intro W base args ds gs before hval0 hW hcnd _
  have hval : ∀ (j : Nat) t v, Try.f5.params[j]? = some t → args[j]? = some v → Value.okWide Try.prog W .any base t v := hval0
  have hW' := hW
  obtain ⟨p, q, hA0, hV, rfl, hfz, hnd⟩ := hW
  have hA : DataW.TrodAll enc Try.prog W 0 (fun _ => true) true Try.f5.params.toList args.toList ds p := hA0
  rw [Try.params5] at hA hval
  obtain ⟨v0, vs0, d0, ds0, p0, q0, hargs, rfl, rfl, h0, r0⟩ := trodAll_cons hA
  obtain ⟨v1, vs1, d1, ds1, p1, q1, rfl, rfl, rfl, h1, r1⟩ := trodAll_cons r0
  obtain ⟨v2, vs2, d2, ds2, p2, q2, rfl, rfl, rfl, h2, r2⟩ := trodAll_cons r1
  obtain ⟨rfl, rfl, rfl⟩ := trodAll_nil r2
  obtain rfl : args = #[v0, v1, v2] := by cases args; simp_all
  obtain ⟨rfl, rfl⟩ := trodVars_none hV
  have k0 := h0
  have lt0 : ∀ x ∈ p0, x.block < W.heap.size := by obtain ⟨m, hm⟩ := k0; exact DataW.trod_lt m _ _ _ hm
  obtain ⟨a0, rfl, rfl, rfl, w0⟩ := open_int Try.underlying3 (hval 0 3 v0 rfl rfl) h0
  have k1 := h1
  have lt1 : ∀ x ∈ p1, x.block < W.heap.size := by obtain ⟨m, hm⟩ := k1; exact DataW.trod_lt m _ _ _ hm
  obtain ⟨a1, rfl, rfl, rfl, w1⟩ := open_int Try.underlying3 (hval 1 3 v1 rfl rfl) h1
  have k2 := h2
  have lt2 : ∀ x ∈ p2, x.block < W.heap.size := by obtain ⟨m, hm⟩ := k2; exact DataW.trod_lt m _ _ _ hm
  obtain ⟨a2, rfl, rfl, rfl, w2⟩ := open_int Try.underlying41 (hval 2 41 v2 rfl rfl) h2
  clear hA0 hval0
  refine (walk a0 a1 a2 W w0 w1 w2).mono fun e W' ⟨he, bel⟩ => ?_
  subst he
  exact ⟨_, rfl, _, _, _, [], _, [], hW', trodAll_mk1 (shut_bool Try.underlying4 _), (trodAll_cons_mk (Below.trod laidOut (by kernel_rfl) (of_decide_eq_true (by kernel_rfl)) k0 bel lt0) (trodAll_cons_mk (Below.trod laidOut (by kernel_rfl) (of_decide_eq_true (by kernel_rfl)) k1 bel lt1) (trodAll_cons_mk (Below.trod laidOut (by kernel_rfl) (of_decide_eq_true (by kernel_rfl)) k2 bel lt2) trodAll_mk0))), rfl, Below.frame bel _, fun h => by cases h⟩

theorem over : Rows.chainEndsRow.holds Try.pinned (OpenSpec.ofChange Rows.chainEndsSpec) :=
  OpenClaim.holds_of_wide 5 Try.f5 rfl rfl rfl rfl rfl rfl rfl ⟨rfl, rfl, rfl, rfl, rfl⟩ rfl rfl rfl rfl rfl (by kernel_rfl) Try.func5 (by kernel_rfl)
    (of_decide_eq_true (by kernel_rfl)) (by unfold Func.isWrapper; first | (rw [if_pos (by decide +kernel)]; kernel_rfl) | (rw [if_neg (by decide +kernel)]; exact ⟨rfl, rfl⟩))
    (fun os started H enc _ => lifted os started H enc)

/-- THE STATEMENT -/
theorem proved : Rows.ChainEndsSaid := over
#print axioms proved
end Go.Proofs.Yteofgnifpkcgmaa.chainEnds
