/-
  RootsNone of layer 11: memories that are too small, configurations that may not be, slots that are none: nothing is made, nothing told; for all numbers.
-/
import Derived.Test.YtalglhgngedjoaaGreatPart24
import Derived.Test.YtalglhgngedjoaaGreatRows
import Derived.WalkKit
import Derived.ProofKit
import Derived.OpenShut
import Derived.ShutString
import Derived.ChangeOld
import Derived.Below
import Derived.Carry
import Derived.Lib.SmallJoins
namespace Go.Proofs.YtalglhgngedjoaaGreat.rootsNone
open Go.ChangeShapes Go.WideShapes Go.ChangeAt Go.RowKit Go.Joins Go.Proofs.YtalglhgngedjoaaGreat W64
open Go.ChangeMaps (open_string shut_string)
set_option linter.unusedVariables false

theorem own : ownKnob Tryz.prog.godebug = none := by kernel_rfl
theorem laidOut : laidOutB Tryz.prog = true := by kernel_rfl


set_option maxHeartbeats 8000000 in
set_option maxRecDepth 100000 in
theorem walk (a0 : Int) (a1 : Int) (a2 : Int) (w : World) (w0 : (Lit.int .i64 a0).wf = true) (w1 : (Lit.int .i64 a1).wf = true) (w2 : (Lit.int .i64 a2).wf = true) :
    Calls Tryz.prog 5 #[.int .i64 a0, .int .i64 a1, .int .i64 a2] w fun e w' => e = .returned (.bool true) ∧ Up w w' := by
  clear w0 w1 w2
  obtain ⟨j7, hj7, _, j70, j71⟩ := emod_letter a1 7 (by decide)
  obtain ⟨x, hx, _, x0, x1⟩ := emod_letter a2 1000 (by decide)
  obtain ⟨z, hz, _, z0, z1⟩ := emod_letter a2 2 (by decide)
  have HJ7 := Lib.hid hj7
  have HX := Lib.hid hx
  have HZ := Lib.hid hz
  clear hj7 hx hz
  go_enter Tryz.func5, Tryz.ntmps5
  go_upto_region 5 with (first
    | (go_at_call 6; refine (first11 _).mono ?_; rintro r wA ⟨rfl, UA⟩; have HUA := Lib.hid UA; clear UA)
    | (go_at_call 21; refine (config_any a0 _).mono ?_; rintro r wB ⟨c, rfl, hs, UB⟩; have HUB := Lib.hid (HUA.out.trans UB); have HS := Lib.hid hs; clear UB hs))
  obtain ⟨r0, hr0⟩ : ∃ r0 : Nat, (r0 : Int) = 3 + c.wk := ⟨(3 + c.wk).toNat, by have := HS.out.1; omega⟩
  obtain ⟨n, hn⟩ : ∃ n : Nat, (n : Int) = c.sl := ⟨c.sl.toNat, by have := HS.out.2.2.2.1; omega⟩
  obtain ⟨L, hL⟩ : ∃ L : Nat, lenN c = (L : Int) := ⟨(lenN c).toNat, by have := lenN_small HS.out.may; omega⟩
  have hLs := lenN_small HS.out.may
  rw [hL] at hLs
  obtain ⟨L1, L2⟩ := hLs
  obtain ⟨j, hj, _, j0, j1⟩ := emod_letter a1 ((L : Int) - 1) (by omega)
  obtain ⟨N, hN⟩ : ∃ N : Nat, 1 + j = (N : Int) := ⟨(1 + j).toNat, by omega⟩
  have HJ := Lib.hid hj
  have HN := Lib.hid hN
  have HL := Lib.hid hL
  have HRN := Lib.hid (And.intro hr0 hn)
  have HLN := Lib.hid (show 1 ≤ N ∧ N ≤ 8388608 ∧ (N : Int) < (L : Int) ∧ 1 ≤ L ∧ L ≤ 8388608 by omega)
  have n64 := Lib.hid (show (0 : Int) < (L : Int) - 1 ∧ (L : Int) - 1 < 9223372036854775808 by omega)
  have hsl := HS.out.2.2.2.1
  have hwo := HS.out.2.2.1
  have hw8 : 8 ≤ c.wo ∧ c.wo ≤ 16 := by omega
  obtain ⟨hwo1, hwo2⟩ := hw8
  have HBAD := Lib.hid (show mayB ⟨c.wk, c.ch, c.wo + 1 + j7, c.sl, c.ca, c.ba⟩ = false from mayB_not.2 (fun m => by have h1 := m.2.2.1.2.2; dsimp only at h1; omega))
  obtain ⟨hsl1, hsl2⟩ := hsl
  have HWR := Lib.hid (show IntKind.i64.wrap (c.wo + 1) = c.wo + 1 ∧ IntKind.i64.wrap (c.wo + 1 + j7) = c.wo + 1 + j7 from ⟨IntWalk.i64_in _ (by omega), IntWalk.i64_in _ (by omega)⟩)
  have zl : ∀ k : Nat, (St.zero k).xs.length = k := fun k => by simp [St.zero]
  have HSL := Lib.hid (show ((St.zero N).xs.length : Int) < lenN c ∧ (St.zero L).xs.length ≤ 8388608 ∧ lenN c ≤ ((St.zero L).xs.length : Int) by rw [zl, zl, hL]; exact ⟨HLN.out.2.2.1, HLN.out.2.2.2.2, Int.le_refl _⟩)
  clear hr0 hL hj hN hwo zl
  obtain ⟨bc, hbc⟩ : ∃ bc, wB.heap.size = bc := ⟨_, rfl⟩
  have HB := Lib.hid (Whole.new wB 31 #[.int .i64 c.wk, .int .i64 c.ch, .int .i64 c.wo, .int .i64 c.sl, .int .i64 c.ca, .int .i64 c.ba])
  have HU0 := Lib.hid (HUB.out.then_alloc (.cells #[.int .i64 c.wk, .int .i64 c.ch, .int .i64 c.wo, .int .i64 c.sl, .int .i64 c.ca, .int .i64 c.ba] 31))
  rw [hbc] at HB ⊢
  clear hbc
  generalize wB.alloc (.cells #[.int .i64 c.wk, .int .i64 c.ch, .int .i64 c.wo, .int .i64 c.sl, .int .i64 c.ca, .int .i64 c.ba] 31) = w0 at *
  have e0 := HB.out.cell (i := 0) (v := .int .i64 c.wk) rfl
  have e1 := HB.out.cell (i := 1) (v := .int .i64 c.ch) rfl
  have e2 := HB.out.cell (i := 2) (v := .int .i64 c.wo) rfl
  have e3 := HB.out.cell (i := 3) (v := .int .i64 c.sl) rfl
  have e4 := HB.out.cell (i := 4) (v := .int .i64 c.ca) rfl
  have e5 := HB.out.cell (i := 5) (v := .int .i64 c.ba) rfl
  go_upto_region 10 with (first
    | (go_at_call 22; refine (len_is (c := c) HL.out _).mono ?_; rintro r w2 ⟨rfl, U2⟩; have HU2 := Lib.hid (HU0.out.trans U2); have HB2 := Lib.hid (HB.out.up U2); clear U2)
    | (go_at_call 8; (with_reducible refine (number_is HJ.out n64.out.1 n64.out.2 _).mono ?_); rintro r w' ⟨rfl, rfl⟩)
    | (go_at_call 23; (with_reducible refine (new_in L HLN.out.2.2.2.1 HLN.out.2.2.2.2 _).mono ?_); rintro r w3 ⟨rfl, M3, U3⟩; have HM3 := Lib.hid M3; have HU3 := Lib.hid (HU2.out.trans U3); have HB3 := Lib.hid (HB2.out.up U3); clear M3 U3)
    | (go_at_call 23; (with_reducible refine (new_is HN.out HLN.out.1 HLN.out.2.1 _).mono ?_); rintro r w4 ⟨rfl, M4, U4⟩; have HM4 := Lib.hid M4; have HU4 := Lib.hid (HU3.out.trans U4); have HB4 := Lib.hid (HB3.out.up U4); have HM34 := Lib.hid (HM3.out.up U4); clear M4 U4))
  clear e0 e1 e2 e3 e4 e5
  obtain ⟨g, hg⟩ : ∃ g, w2.heap.size = g := ⟨_, rfl⟩
  obtain ⟨p, hp⟩ : ∃ p, g + 1 = p := ⟨_, rfl⟩
  obtain ⟨g2, hg2⟩ : ∃ g, w3.heap.size = g := ⟨_, rfl⟩
  obtain ⟨p2, hp2⟩ : ∃ p, g2 + 1 = p := ⟨_, rfl⟩
  rw [hg, hp] at HM34
  rw [hg2, hp2] at HM4
  rw [hg, hp, hg2, hp2]
  clear hg hp hg2 hp2
  have e0 := HB4.out.cell (i := 0) (v := .int .i64 c.wk) rfl
  have e1 := HB4.out.cell (i := 1) (v := .int .i64 c.ch) rfl
  have e2 := HB4.out.cell (i := 2) (v := .int .i64 c.wo) rfl
  have e3 := HB4.out.cell (i := 3) (v := .int .i64 c.sl) rfl
  have e4 := HB4.out.cell (i := 4) (v := .int .i64 c.ca) rfl
  have e5 := HB4.out.cell (i := 5) (v := .int .i64 c.ba) rfl
  go_upto_region 11 with (first
    | (go_at_call 24; refine (rtNew_small (c := c) HM4.out HS.out.may HSL.out.1).mono ?_; rintro r w5 ⟨rfl, U5⟩; have HU5 := Lib.hid (HU4.out.trans U5); have HB5 := Lib.hid (HB4.out.up U5); have HM5 := Lib.hid (HM34.out.up U5); clear U5))
  clear e0 e1 e2 e3 e4 e5
  have e0 := HB5.out.cell (i := 0) (v := .int .i64 c.wk) rfl
  have e1 := HB5.out.cell (i := 1) (v := .int .i64 c.ch) rfl
  have e2 := HB5.out.cell (i := 2) (v := .int .i64 c.wo) rfl
  have e3 := HB5.out.cell (i := 3) (v := .int .i64 c.sl) rfl
  have e4 := HB5.out.cell (i := 4) (v := .int .i64 c.ca) rfl
  have e5 := HB5.out.cell (i := 5) (v := .int .i64 c.ba) rfl
  go_upto_region 12 with fail
  clear e0 e1 e2 e3 e4 e5
  obtain ⟨bb, hbb⟩ : ∃ bb, w5.heap.size = bb := ⟨_, rfl⟩
  have HBB := Lib.hid (Whole.new w5 31 #[.int .i64 c.wk, .int .i64 c.ch, .int .i64 c.wo, .int .i64 c.sl, .int .i64 c.ca, .int .i64 c.ba])
  have HU6 := Lib.hid (HU5.out.then_alloc (.cells #[.int .i64 c.wk, .int .i64 c.ch, .int .i64 c.wo, .int .i64 c.sl, .int .i64 c.ca, .int .i64 c.ba] 31))
  have HB6 := Lib.hid (HB5.out.up (Up.alloc w5 (.cells #[.int .i64 c.wk, .int .i64 c.ch, .int .i64 c.wo, .int .i64 c.sl, .int .i64 c.ca, .int .i64 c.ba] 31)))
  have HM6 := Lib.hid (HM5.out.up (Up.alloc w5 (.cells #[.int .i64 c.wk, .int .i64 c.ch, .int .i64 c.wo, .int .i64 c.sl, .int .i64 c.ca, .int .i64 c.ba] 31)))
  have HNE := Lib.hid (show w.heap.size ≤ bb ∧ bc ≠ bb ∧ p ≠ bb ∧ g ≠ bb from by
    have h1 := HU5.out.size
    have h2 := HB5.out.lt
    have h3 := HM5.out.top.lt
    have h4 := HM5.out.row.lt
    omega)
  rw [hbb] at HBB ⊢
  clear hbb
  generalize w5.alloc (.cells #[.int .i64 c.wk, .int .i64 c.ch, .int .i64 c.wo, .int .i64 c.sl, .int .i64 c.ca, .int .i64 c.ba] 31) = w6 at *
  have d2 := HBB.out.cell (i := 2) (v := .int .i64 c.wo) rfl
  have f2 := HBB.out.frozen 2
  go_region_law (first
    | (go_simp; go_at_call 8; (with_reducible refine (number_is HJ7.out (by decide) (by decide) _).mono ?_); rintro r w' ⟨rfl, rfl⟩; go_wp2_with fail))
  all_goals
    rw [HWR.out.1, HWR.out.2]
    have HU7 := Lib.hid ((HU6.out.set (g := bb) (i := 2) HNE.out.1 (.int .i64 (c.wo + 1 + j7))).then_drew)
    have E7 : Else [bb] w6 (w6.setCell ⟨bb, 2, none⟩ (.int .i64 (c.wo + 1 + j7))).drew := ((Else.refl [bb] w6).set (.inl (by simp)) _).drew
    have HB7 := Lib.hid (E7.whole HB6.out (by simp [HNE.out.2.1]))
    have HM7 := Lib.hid (HM6.out.else E7 (by simp [HNE.out.2.2.1]) (by simp [HNE.out.2.2.2]))
    have HBB7 := Lib.hid (show Whole (w6.setCell ⟨bb, 2, none⟩ (.int .i64 (c.wo + 1 + j7))).drew bb 31 #[.int .i64 c.wk, .int .i64 c.ch, .int .i64 (c.wo + 1 + j7), .int .i64 c.sl, .int .i64 c.ca, .int .i64 c.ba] from HBB.out.set 2 _)
    clear d2 f2 E7
    generalize (w6.setCell ⟨bb, 2, none⟩ (.int .i64 (c.wo + 1 + j7))).drew = w7 at *
    have y0 := HBB7.out.cell (i := 0) (v := .int .i64 c.wk) rfl
    have y1 := HBB7.out.cell (i := 1) (v := .int .i64 c.ch) rfl
    have y2 := HBB7.out.cell (i := 2) (v := .int .i64 (c.wo + 1 + j7)) rfl
    have y3 := HBB7.out.cell (i := 3) (v := .int .i64 c.sl) rfl
    have y4 := HBB7.out.cell (i := 4) (v := .int .i64 c.ca) rfl
    have y5 := HBB7.out.cell (i := 5) (v := .int .i64 c.ba) rfl
    go_upto_region 14 with (first
      | (go_at_call 24; refine (rtNew_bad HBAD.out _ _).mono ?_; rintro r w8 ⟨rfl, U8⟩; have HU8 := Lib.hid (HU7.out.trans U8); have HB8 := Lib.hid (HB7.out.up U8); have HM8 := Lib.hid (HM7.out.up U8); clear U8))
    clear y0 y1 y2 y3 y4 y5
    have e0 := HB8.out.cell (i := 0) (v := .int .i64 c.wk) rfl
    have e1 := HB8.out.cell (i := 1) (v := .int .i64 c.ch) rfl
    have e2 := HB8.out.cell (i := 2) (v := .int .i64 c.wo) rfl
    have e3 := HB8.out.cell (i := 3) (v := .int .i64 c.sl) rfl
    have e4 := HB8.out.cell (i := 4) (v := .int .i64 c.ca) rfl
    have e5 := HB8.out.cell (i := 5) (v := .int .i64 c.ba) rfl
    go_upto_region 17 with (first
      | (go_at_call 24; refine (rtNew (c := c) (r0 := r0) (n := n) HM8.out (St.Ok.zero L) HSL.out.2.1 HS.out.may HRN.out.1 HRN.out.2 HSL.out.2.2).mono ?_; rintro r w9 ⟨q, qs, rfl, R9, _, _, U9⟩; have HU9 := Lib.hid (HU8.out.trans U9); have HB9 := Lib.hid (HB8.out.up U9); have HR9 := Lib.hid R9; clear R9 U9))
    clear e0 e1 e2 e3 e4 e5
    have e3 := HB9.out.cell (i := 3) (v := .int .i64 c.sl) rfl
    go_quiet ((go_at_call 8; exact quiet_eq (number_is HX.out (by decide) (by decide) _)))
    clear e3
    have HU10 := Lib.hid (HU9.out.then_drewN nq)
    have HR10 := Lib.hid (HR9.out.up (Up.drewN _ nq))
    have g0 := run_gfield
    have g1 := run_gfield1
    generalize w9.drewN nq = w10 at *
    by_cases hz1 : z = 1
    · have HNA0 := hz1
      have HNA := Lib.hid (show ¬ (0 ≤ -1 - x ∧ -1 - x < (n : Int)) by omega)
      have zb : (z == 1) = true := by simp [hz1]
      clear hn
      go_wp2_with (first
        | (go_at_call 8; (with_reducible refine (number_is HZ.out (by decide) (by decide) _).mono ?_); rintro r w' ⟨rfl, rfl⟩)
        | (go_at_call 8; (with_reducible refine (number_is HX.out (by decide) (by decide) _).mono ?_); rintro r w' ⟨rfl, rfl⟩)
        | (go_at_call 17; refine (lkNew_no HR10.out HNA.out 1).mono ?_; rintro r w' ⟨rfl, rfl⟩)
        | (go_at_call 25; refine (edNew_no HR10.out HNA.out 1).mono ?_; rintro r w' ⟨rfl, rfl⟩)
        | (go_at_call 26; refine (rtBack_no HR10.out HNA.out).mono ?_; rintro r w11 ⟨rfl, U11⟩; have HR11 := Lib.hid (HR10.out.up U11); have HU11 := Lib.hid (HU10.out.trans U11); clear U11)
        | (go_at_call 15; (with_reducible refine (rtRoot_no HR11.out HNA.out).mono ?_); rintro r w12 ⟨rfl, U12⟩; replace HU11 := Lib.hid (HU11.out.trans U12); replace HR11 := Lib.hid (HR11.out.up U12); clear U12)
        | (go_at_call 27; (with_reducible refine (count_to HR11.out.env.mem (zero_c L)).mono ?_); rintro r w' ⟨rfl, rfl⟩))
      go_ret
      exact ⟨rfl, HU11.out⟩
    · have HNA0 := hz1
      have HNA := Lib.hid (show ¬ (0 ≤ c.sl + x ∧ c.sl + x < (n : Int)) by omega)
      have zb : (z == 1) = false := by simp [hz1]
      clear hn
      go_wp2_with (first
        | (go_at_call 8; (with_reducible refine (number_is HZ.out (by decide) (by decide) _).mono ?_); rintro r w' ⟨rfl, rfl⟩)
        | (go_at_call 8; (with_reducible refine (number_is HX.out (by decide) (by decide) _).mono ?_); rintro r w' ⟨rfl, rfl⟩)
        | (go_at_call 17; refine (lkNew_no HR10.out HNA.out 1).mono ?_; rintro r w' ⟨rfl, rfl⟩)
        | (go_at_call 25; refine (edNew_no HR10.out HNA.out 1).mono ?_; rintro r w' ⟨rfl, rfl⟩)
        | (go_at_call 26; refine (rtBack_no HR10.out HNA.out).mono ?_; rintro r w11 ⟨rfl, U11⟩; have HR11 := Lib.hid (HR10.out.up U11); have HU11 := Lib.hid (HU10.out.trans U11); clear U11)
        | (go_at_call 15; (with_reducible refine (rtRoot_no HR11.out HNA.out).mono ?_); rintro r w12 ⟨rfl, U12⟩; replace HU11 := Lib.hid (HU11.out.trans U12); replace HR11 := Lib.hid (HR11.out.up U12); clear U12)
        | (go_at_call 27; (with_reducible refine (count_to HR11.out.env.mem (zero_c L)).mono ?_); rintro r w' ⟨rfl, rfl⟩))
      go_ret
      exact ⟨rfl, HU11.out⟩

set_option maxRecDepth 100000 in
theorem lifted (os : Os) (started : os.Started) (H : Type) (enc : TypeId × Value → H) :
    ReturnsInHanded {} Tryz.checked os 5 .any (Rows.rootsNoneSpec.pre6 enc Tryz.prog Tryz.f5 Rows.rootsNoneRow.domain false) (Rows.rootsNoneSpec.post enc Tryz.prog Tryz.f5 false true false false) := by
  refine returnsInHanded_of_change (C := Tryz.checked) own started (by kernel_rfl) Tryz.func5
    (ChangeSpec.witness6 (enc := enc) (C := Tryz.checked) false ⟨#[], #[.int .i64 0, .int .i64 0, .int .i64 0], []⟩ 8 (by kernel_rfl) (by kernel_rfl) (by kernel_rfl) (by kernel_rfl)) ?_
  intro W base args ds gs before hval0 hW hcnd _
  have hval : ∀ (j : Nat) t v, Tryz.f5.params[j]? = some t → args[j]? = some v → Value.okWide Tryz.prog W .any base t v := hval0
  have hW' := hW
  obtain ⟨p, q, hA0, hV, rfl, hfz, hnd⟩ := hW
  have hA : DataW.TrodAll enc Tryz.prog W 0 (fun _ => true) true Tryz.f5.params.toList args.toList ds p := hA0
  rw [Tryz.params5] at hA hval
  obtain ⟨v0, vs0, d0, ds0, p0, q0, hargs, rfl, rfl, h0, r0⟩ := trodAll_cons hA
  obtain ⟨v1, vs1, d1, ds1, p1, q1, rfl, rfl, rfl, h1, r1⟩ := trodAll_cons r0
  obtain ⟨v2, vs2, d2, ds2, p2, q2, rfl, rfl, rfl, h2, r2⟩ := trodAll_cons r1
  obtain ⟨rfl, rfl, rfl⟩ := trodAll_nil r2
  obtain rfl : args = #[v0, v1, v2] := by cases args; simp_all
  obtain ⟨rfl, rfl⟩ := trodVars_none hV
  have k0 := h0
  have lt0 : ∀ x ∈ p0, x.block < W.heap.size := by obtain ⟨m, hm⟩ := k0; exact DataW.trod_lt m _ _ _ hm
  obtain ⟨a0, rfl, rfl, rfl, w0⟩ := open_int Tryz.underlying3 (hval 0 3 v0 rfl rfl) h0
  have k1 := h1
  have lt1 : ∀ x ∈ p1, x.block < W.heap.size := by obtain ⟨m, hm⟩ := k1; exact DataW.trod_lt m _ _ _ hm
  obtain ⟨a1, rfl, rfl, rfl, w1⟩ := open_int Tryz.underlying3 (hval 1 3 v1 rfl rfl) h1
  have k2 := h2
  have lt2 : ∀ x ∈ p2, x.block < W.heap.size := by obtain ⟨m, hm⟩ := k2; exact DataW.trod_lt m _ _ _ hm
  obtain ⟨a2, rfl, rfl, rfl, w2⟩ := open_int Tryz.underlying3 (hval 2 3 v2 rfl rfl) h2
  clear hA0 hval0
  refine (walk a0 a1 a2 W w0 w1 w2).mono fun e W' ⟨he, bel⟩ => ?_
  subst he
  exact ⟨_, rfl, _, _, _, [], _, [], hW', trodAll_mk1 (shut_bool Tryz.underlying4 _), (trodAll_cons_mk (Below.trod laidOut (by kernel_rfl) (of_decide_eq_true (by kernel_rfl)) k0 bel lt0) (trodAll_cons_mk (Below.trod laidOut (by kernel_rfl) (of_decide_eq_true (by kernel_rfl)) k1 bel lt1) (trodAll_cons_mk (Below.trod laidOut (by kernel_rfl) (of_decide_eq_true (by kernel_rfl)) k2 bel lt2) trodAll_mk0))), rfl, Below.frame bel _, fun h => by cases h⟩

theorem over : Rows.rootsNoneRow.holds Tryz.pinned (OpenSpec.ofChange Rows.rootsNoneSpec) :=
  OpenClaim.holds_of_wide 5 Tryz.f5 rfl rfl rfl rfl rfl rfl rfl ⟨rfl, rfl, rfl, rfl, rfl⟩ rfl rfl rfl rfl rfl (by kernel_rfl) Tryz.func5 (by kernel_rfl)
    (of_decide_eq_true (by kernel_rfl)) (by unfold Func.isWrapper; first | (rw [if_pos (by decide +kernel)]; kernel_rfl) | (rw [if_neg (by decide +kernel)]; exact ⟨rfl, rfl⟩))
    (fun os started H enc _ => lifted os started H enc)

/-- THE STATEMENT -/
theorem proved : Rows.RootsNoneSaid := over
#print axioms proved
end Go.Proofs.YtalglhgngedjoaaGreat.rootsNone
