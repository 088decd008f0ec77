/-
  LimboRefuses of layer 7: a Retire without items, under a tag that is none, or under one that is less than one that was, takes nothing in and answers nothing; for every tag, number and item.
-/
import Derived.Test.YthajdabdiaogiaaRows
import Derived.Test.YthajdabdiaogiaaLimboLaws
import Derived.WalkKit
import Derived.ProofKit
import Derived.OpenShut
import Derived.ShutString
import Derived.ChangeOld
import Derived.Below
import Derived.Carry
import Derived.Lib.SmallJoins
namespace Go.Proofs.Ythajdabdiaogiaa.limboRefuses
open Go.ChangeShapes Go.WideShapes Go.ChangeAt Go.RowKit Go.Joins Go.Proofs.Ythajdabdiaogiaa W64
open Go.ChangeMaps (open_string shut_string)
set_option linter.unusedVariables false

theorem own : ownKnob Try.prog.godebug = none := by kernel_rfl
theorem laidOut : laidOutB Try.prog = true := by kernel_rfl


set_option maxHeartbeats 4000000 in
set_option maxRecDepth 100000 in
theorem walk (a0 : Int) (a1 : Int) (a2 : Int) (w : World) (w0 : (Lit.int .i64 a0).wf = true) (w1 : (Lit.int .i64 a1).wf = true) (w2 : (Lit.int .i64 a2).wf = true) :
    Calls Try.prog 6 #[.int .i64 a0, .int .i64 a1, .int .i64 a2] w fun e w' => e = .returned (.bool true) ∧ Up w w' := by
  clear w0 w1 w2
  obtain ⟨x, hx, _, x0, x1⟩ := emod_letter a0 1000 (by decide)
  obtain ⟨y, hy, _, y0, y1⟩ := emod_letter a1 (1 + x) (by omega)
  obtain ⟨z, hz, _, z0, z1⟩ := emod_letter a1 1000 (by decide)
  obtain ⟨k, hk⟩ : ∃ k : Nat, (1 + x) % 3 = k := ⟨((1 + x) % 3).toNat, by omega⟩
  have hk3 : k < 3 := by omega
  have hm : (1 + x).tmod 3 = (k : Int) := by rw [Int.tmod_eq_emod_of_nonneg (by omega)]; exact hk
  have hd0 : 0 < 1 + x := by omega
  have hd1 : 1 + x < 9223372036854775808 := by omega
  have HX := Lib.hid hx
  have HY := Lib.hid hy
  have HZ := Lib.hid hz
  have HK := Lib.hid hk
  clear hx hy hz hk
  have HS := Lib.hid (one_retire k (1 + x) [a2])
  have HT := Lib.hid (zero_taken k (1 + x))
  have H1T := Lib.hid (one_T k (1 + x) [a2])
  have H1L := Lib.hid (one_L k (1 + x) [a2])
  have HL0 := Lib.hid (show Lb.zero.last ≤ 1 + x by show (0 : Int) ≤ 1 + x; omega)
  have HZS := Lib.hid (show Lb.zero.size + 1 ≤ 8192 by decide)
  have H1N := Lib.hid (show (Lb.one k (1 + x) [a2]).last = 1 + x from rfl)
  have HNIL := Lib.hid (show ([] : List Int).length = 0 from rfl)
  have HONE := Lib.hid (show [a2].length = 1 from rfl)
  have HONE2 := Lib.hid (show [a2].length ≤ 8192 by simp)
  have H1S := Lib.hid (show (Lb.one k (1 + x) [a2]).size = 1 from one_size hk3 (1 + x) [a2])
  go_enter Try.func6, Try.ntmps6
  go_wp2_with (first
    | (go_at_call 7; refine (first_any _).mono ?_; rintro e wA ⟨rfl, UA⟩)
    | (go_at_call 12; (with_reducible refine (number_is HX.out (by decide) (by decide) _).mono ?_); rintro e w' ⟨rfl, rfl⟩)
    | (go_at_call 12; (with_reducible refine (number_is HY.out hd0 hd1 _).mono ?_); rintro e w' ⟨rfl, rfl⟩)
    | (go_at_call 12; (with_reducible refine (number_is HZ.out (by decide) (by decide) _).mono ?_); rintro e w' ⟨rfl, rfl⟩)
    | (go_at_call 8; refine (lnew_mine _).mono ?_; rintro e wB ⟨rfl, MB⟩; have HM1 := Lib.hid MB; clear MB)
    | (go_at_call 13; (with_reducible refine (lretire1 (k := k) (n := 0) HM1.out.lim HL0.out (by omega) HK.out HZS.out HS.out HT.out HNIL.out).mono ?_); rintro e wC ⟨AC, cC, rfl, TC⟩; obtain ⟨FC, MC, JC, -⟩ := HM1.out.took TC; have HM := Lib.hid MC; clear MC TC JC)
    | (go_at_call 13; (with_reducible refine (refuse1 HM.out (t := 1 + x) H1N.out (by omega)).mono ?_); rintro e wD ⟨rfl, MD⟩; replace HM := Lib.hid MD; clear MD)
    | (go_at_call 13; (with_reducible refine (refuse0 HM.out).mono ?_); rintro e wD ⟨rfl, MD⟩; replace HM := Lib.hid MD; clear MD)
    | (go_at_call 18; (with_reducible refine (bucket_to (n := 1) HM.out.lim rfl hk3 H1T.out H1L.out HONE2.out HONE.out).mono ?_); rintro e wE ⟨AE, cE, rfl, JE, FE, UE⟩; obtain ⟨gE, rfl, hcE⟩ := JE.one; have HME := Lib.hid (HM.out.then UE); clear JE FE UE)
    | (go_at_call 20; (with_reducible refine (llen_to (n := 1) HME.out.lim H1S.out (by decide)).mono ?_); rintro e wF ⟨rfl, UF⟩; have HMF := Lib.hid (HME.out.then UF); clear UF))
  go_ret
  exact ⟨rfl, UA.trans HMF.out.up⟩

set_option maxRecDepth 100000 in
theorem lifted (os : Os) (started : os.Started) (H : Type) (enc : TypeId × Value → H) :
    ReturnsInHanded {} Try.checked os 6 .any (Rows.limboRefusesSpec.pre6 enc Try.prog Try.f6 Rows.limboRefusesRow.domain false) (Rows.limboRefusesSpec.post enc Try.prog Try.f6 false true false false) := by
  refine returnsInHanded_of_change (C := Try.checked) own started (by kernel_rfl) Try.func6
    (ChangeSpec.witness6 (enc := enc) (C := Try.checked) false ⟨#[], #[.int .i64 0, .int .i64 0, .int .i64 0], []⟩ 8 (by kernel_rfl) (by kernel_rfl) (by kernel_rfl) (by kernel_rfl)) ?_
  intro W base args ds gs before hval0 hW hcnd _
  have hval : ∀ (j : Nat) t v, Try.f6.params[j]? = some t → args[j]? = some v → Value.okWide Try.prog W .any base t v := hval0
  have hW' := hW
  obtain ⟨p, q, hA0, hV, rfl, hfz, hnd⟩ := hW
  have hA : DataW.TrodAll enc Try.prog W 0 (fun _ => true) true Try.f6.params.toList args.toList ds p := hA0
  rw [Try.params6] at hA hval
  obtain ⟨v0, vs0, d0, ds0, p0, q0, hargs, rfl, rfl, h0, r0⟩ := trodAll_cons hA
  obtain ⟨v1, vs1, d1, ds1, p1, q1, rfl, rfl, rfl, h1, r1⟩ := trodAll_cons r0
  obtain ⟨v2, vs2, d2, ds2, p2, q2, rfl, rfl, rfl, h2, r2⟩ := trodAll_cons r1
  obtain ⟨rfl, rfl, rfl⟩ := trodAll_nil r2
  obtain rfl : args = #[v0, v1, v2] := by cases args; simp_all
  obtain ⟨rfl, rfl⟩ := trodVars_none hV
  have k0 := h0
  have lt0 : ∀ x ∈ p0, x.block < W.heap.size := by obtain ⟨m, hm⟩ := k0; exact DataW.trod_lt m _ _ _ hm
  obtain ⟨a0, rfl, rfl, rfl, w0⟩ := open_int Try.underlying3 (hval 0 3 v0 rfl rfl) h0
  have k1 := h1
  have lt1 : ∀ x ∈ p1, x.block < W.heap.size := by obtain ⟨m, hm⟩ := k1; exact DataW.trod_lt m _ _ _ hm
  obtain ⟨a1, rfl, rfl, rfl, w1⟩ := open_int Try.underlying3 (hval 1 3 v1 rfl rfl) h1
  have k2 := h2
  have lt2 : ∀ x ∈ p2, x.block < W.heap.size := by obtain ⟨m, hm⟩ := k2; exact DataW.trod_lt m _ _ _ hm
  obtain ⟨a2, rfl, rfl, rfl, w2⟩ := open_int Try.underlying3 (hval 2 3 v2 rfl rfl) h2
  clear hA0 hval0
  refine (walk a0 a1 a2 W w0 w1 w2).mono fun e W' ⟨he, bel⟩ => ?_
  subst he
  exact ⟨_, rfl, _, _, _, [], _, [], hW', trodAll_mk1 (shut_bool Try.underlying4 _), (trodAll_cons_mk (Below.trod laidOut (by kernel_rfl) (of_decide_eq_true (by kernel_rfl)) k0 bel lt0) (trodAll_cons_mk (Below.trod laidOut (by kernel_rfl) (of_decide_eq_true (by kernel_rfl)) k1 bel lt1) (trodAll_cons_mk (Below.trod laidOut (by kernel_rfl) (of_decide_eq_true (by kernel_rfl)) k2 bel lt2) trodAll_mk0))), rfl, Below.frame bel _, fun h => by cases h⟩

theorem over : Rows.limboRefusesRow.holds Try.pinned (OpenSpec.ofChange Rows.limboRefusesSpec) :=
  OpenClaim.holds_of_wide 6 Try.f6 rfl rfl rfl rfl rfl rfl rfl ⟨rfl, rfl, rfl, rfl, rfl⟩ rfl rfl rfl rfl rfl (by kernel_rfl) Try.func6 (by kernel_rfl)
    (of_decide_eq_true (by kernel_rfl)) (by unfold Func.isWrapper; first | (rw [if_pos (by decide +kernel)]; kernel_rfl) | (rw [if_neg (by decide +kernel)]; exact ⟨rfl, rfl⟩))
    (fun os started H enc _ => lifted os started H enc)

/-- THE STATEMENT -/
theorem proved : Rows.LimboRefusesSaid := over
#print axioms proved
end Go.Proofs.Ythajdabdiaogiaa.limboRefuses
