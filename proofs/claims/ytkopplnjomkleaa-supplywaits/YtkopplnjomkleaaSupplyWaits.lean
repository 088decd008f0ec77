/-
  What was retired is not taken ahead of its tag and 2: the pool is asked, behind a look at the epoch; then it is taken, and the pool is let alone.
-/
import Derived.Test.YtkopplnjomkleaaPart25
import Derived.Test.YtkopplnjomkleaaRows
import Derived.WalkKit
import Derived.ProofKit
import Derived.OpenShut
import Derived.ShutString
import Derived.ChangeOld
import Derived.Below
import Derived.Carry
import Derived.Lib.SmallJoins
import Derived.Deep.RegionHeldLaw
import Derived.Deep.RegionLaw
namespace Go.Proofs.Ytkopplnjomkleaa.supplyWaits
open Go.ChangeShapes Go.WideShapes Go.ChangeAt Go.RowKit Go.Joins Go.Proofs.Ytkopplnjomkleaa W64
open Go.ChangeMaps (open_string shut_string)
set_option linter.unusedVariables false

theorem own : ownKnob Try.prog.godebug = none := by kernel_rfl
theorem laidOut : laidOutB Try.prog = true := by kernel_rfl


set_option maxHeartbeats 16000000 in
set_option maxRecDepth 100000 in
theorem walk (a0 : Int) (a1 : Int) (w : World) (w0 : (Lit.int .i64 a0).wf = true) (w1 : (Lit.int .i64 a1).wf = true) :
    Calls Try.prog 3 #[.int .i64 a0, .int .i64 a1] w fun e w' => e = .returned (.bool true) ∧ Up w w' := by
  clear w0 w1
  obtain ⟨t, ht, _, t0, t1⟩ := emod_letter a0 1000 (by decide)
  obtain ⟨z, hz, _, z0, z1⟩ := emod_letter a1 5 (by decide)
  obtain ⟨kk, hkk⟩ : ∃ kk : Nat, t % 3 = kk := ⟨(t % 3).toNat, by omega⟩
  have HT := Lib.hid (show 0 ≤ t ∧ t ≤ 4611686018427387903 ∧ t % 3 = kk ∧ kk < 3 ∧ 0 ≤ t + z ∧ t + z ≤ 4611686018427387903 from ⟨t0, by omega, hkk, by omega, by omega, by omega⟩)
  have HTT := Lib.hid ht
  have HZ := Lib.hid hz
  clear ht hz hkk
  go_enter Try.func3, Try.ntmps3
  go_upto_region 5 with (first
    | (go_at_call 5; (with_reducible refine (first13 _).mono ?_); rintro r wA ⟨rfl, UA⟩; have HUA := Lib.hid UA; clear UA))
  obtain ⟨bc, hbc⟩ : ∃ bc, wA.heap.size = bc := ⟨_, rfl⟩
  have HB := Lib.hid (Whole.new wA 24 #[.int .i64 1, .int .i64 3, .int .i64 8, .int .i64 1, .int .i64 2, .int .i64 1])
  have HU0 := Lib.hid (HUA.out.then_alloc (.cells #[.int .i64 1, .int .i64 3, .int .i64 8, .int .i64 1, .int .i64 2, .int .i64 1] 24))
  rw [hbc] at HB ⊢
  clear hbc
  generalize wA.alloc (.cells #[.int .i64 1, .int .i64 3, .int .i64 8, .int .i64 1, .int .i64 2, .int .i64 1] 24) = w0 at *
  have e0 := HB.out.cell (i := 0) (v := .int .i64 1) rfl
  have e1 := HB.out.cell (i := 1) (v := .int .i64 3) rfl
  have e2 := HB.out.cell (i := 2) (v := .int .i64 8) rfl
  have e3 := HB.out.cell (i := 3) (v := .int .i64 1) rfl
  have e4 := HB.out.cell (i := 4) (v := .int .i64 2) rfl
  have e5 := HB.out.cell (i := 5) (v := .int .i64 1) rfl
  go_upto_region 8 with (go_at_call 6; (with_reducible refine (waits_made _).mono ?_); rintro r w5 ⟨a, rfl, l, rr, cp, b, vX, xs, hla, hnum, T5, hl5, A5, hc5⟩; have HA5 := Lib.hid A5; have HLA := Lib.hid (And.intro hla hnum); have HT5 := Lib.hid (And.intro T5 hl5); have HC5 := Lib.hid hc5; clear A5 hla hnum hc5 T5 hl5)
  clear e0 e1 e2 e3 e4 e5
  have q2 : w5.cell? ⟨a, 2, none⟩ = some (.slice (some ⟨rr, 0, none⟩) 1 cp) := by rw [← HLA.out.1]; exact HA5.out.obj.cell rfl
  have q3 := HC5.out
  go_upto_region 12 with (first
    | (go_at_call 7; (with_reducible refine (number_is HTT.out (by decide) (by decide) _).mono ?_); rintro r w' ⟨rfl, rfl⟩)
    | (go_at_call 7; (with_reducible refine (number_is HZ.out (by decide) (by decide) _).mono ?_); rintro r w' ⟨rfl, rfl⟩)
    | (go_at_call 8; (with_reducible refine (waits_take HA5.out HLA.out.2 HT5.out.1).mono ?_); rintro r w6 ⟨rfl, xs6, T6, hl6, A6⟩; have HA6 := Lib.hid A6; have HT6 := Lib.hid (And.intro T6 (hl6.trans HT5.out.2)); clear A6 T6 hl6))
  clear q2 q3
  go_upto_region 14 with (first
    | (go_at_call 9; (with_reducible refine (waits_retire HA6.out HT.out.1 HT.out.2.1 HT.out.2.2.1).mono ?_); rintro r w7 ⟨rfl, A7⟩; have HA7 := Lib.hid A7; have q0 : w7.cell? ⟨a, 0, none⟩ = some (.pointer (some ⟨l.p, 0, none⟩)) := (by rw [← HLA.out.1]; exact A7.obj.cell rfl); clear A7)
    | (go_at_call 10; (with_reducible refine (waits_lay HA7.out HT6.out.2 HT6.out.1 HLA.out.2 HT.out.2.2.2.2.1 HT.out.2.2.2.2.2).mono ?_); rintro r w8 ⟨rfl, xs8, T8, hl8, hx8, A8⟩; have HA8 := Lib.hid A8; have HT8 := Lib.hid (And.intro T8 (And.intro hl8 hx8)); clear A8 T8 hl8 hx8))
  clear q0
  by_cases hz2 : z < 2
  · have HY := Lib.hid (show ¬ t + 2 ≤ t + z by omega)
    go_wp2_with (first
      | (go_at_call 8; (with_reducible refine (waits_no HA8.out HT.out.2.2.2.1 HT8.out.2.1 HT8.out.1 HLA.out.2 HT8.out.2.2 HY.out).mono ?_); rintro r w9 ⟨rfl, xs9, R9, A9⟩; have HA9 := Lib.hid A9; clear A9)
      | (go_at_call 11; (with_reducible refine (waits_stash HA9.out).mono ?_); rintro r w10 ⟨AS, cpS, rfl, A10⟩; have HA10 := Lib.hid A10; clear A10))
    go_ret
    exact ⟨rfl, HU0.out.trans HA10.out.upW⟩
  · have HY := Lib.hid (show t + 2 ≤ t + z by omega)
    go_wp2_with (first
      | (go_at_call 8; (with_reducible refine (waits_yes HA8.out HT.out.2.2.2.1 HT8.out.2.1 HT8.out.2.2 HY.out).mono ?_); rintro r w9 ⟨rfl, R9, A9⟩; have HA9 := Lib.hid A9; have q1 : w9.cell? ⟨a, 1, none⟩ = some (.pointer (some ⟨l.q0, 0, none⟩)) := (by rw [← HLA.out.1]; exact A9.obj.cell rfl); clear A9)
      | (go_at_call 12; (with_reducible refine (waits_list HA9.out HT8.out.1 HLA.out.2).mono ?_); rintro r w10 ⟨AS, cpS, rfl, A10⟩; have HA10 := Lib.hid A10; clear A10))
    go_ret
    exact ⟨rfl, HU0.out.trans HA10.out.upW⟩

set_option maxRecDepth 100000 in
theorem lifted (os : Os) (started : os.Started) (H : Type) (enc : TypeId × Value → H) :
    ReturnsInHanded {} Try.checked os 3 .any (Rows.supplyWaitsSpec.pre6 enc Try.prog Try.f3 Rows.supplyWaitsRow.domain false) (Rows.supplyWaitsSpec.post enc Try.prog Try.f3 false true false false) := by
  refine returnsInHanded_of_change (C := Try.checked) own started (by kernel_rfl) Try.func3
    (ChangeSpec.witness6 (enc := enc) (C := Try.checked) false ⟨#[], #[.int .i64 0, .int .i64 0], []⟩ 8 (by kernel_rfl) (by kernel_rfl) (by kernel_rfl) (by kernel_rfl)) ?_
  intro W base args ds gs before hval0 hW hcnd _
  have hval : ∀ (j : Nat) t v, Try.f3.params[j]? = some t → args[j]? = some v → Value.okWide Try.prog W .any base t v := hval0
  have hW' := hW
  obtain ⟨p, q, hA0, hV, rfl, hfz, hnd⟩ := hW
  have hA : DataW.TrodAll enc Try.prog W 0 (fun _ => true) true Try.f3.params.toList args.toList ds p := hA0
  rw [Try.params3] at hA hval
  obtain ⟨v0, vs0, d0, ds0, p0, q0, hargs, rfl, rfl, h0, r0⟩ := trodAll_cons hA
  obtain ⟨v1, vs1, d1, ds1, p1, q1, rfl, rfl, rfl, h1, r1⟩ := trodAll_cons r0
  obtain ⟨rfl, rfl, rfl⟩ := trodAll_nil r1
  obtain rfl : args = #[v0, v1] := by cases args; simp_all
  obtain ⟨rfl, rfl⟩ := trodVars_none hV
  have k0 := h0
  have lt0 : ∀ x ∈ p0, x.block < W.heap.size := by obtain ⟨m, hm⟩ := k0; exact DataW.trod_lt m _ _ _ hm
  obtain ⟨a0, rfl, rfl, rfl, w0⟩ := open_int Try.underlying3 (hval 0 3 v0 rfl rfl) h0
  have k1 := h1
  have lt1 : ∀ x ∈ p1, x.block < W.heap.size := by obtain ⟨m, hm⟩ := k1; exact DataW.trod_lt m _ _ _ hm
  obtain ⟨a1, rfl, rfl, rfl, w1⟩ := open_int Try.underlying3 (hval 1 3 v1 rfl rfl) h1
  clear hA0 hval0
  refine (walk a0 a1 W w0 w1).mono fun e W' ⟨he, bel⟩ => ?_
  subst he
  exact ⟨_, rfl, _, _, _, [], _, [], hW', trodAll_mk1 (shut_bool Try.underlying4 _), (trodAll_cons_mk (Below.trod laidOut (by kernel_rfl) (of_decide_eq_true (by kernel_rfl)) k0 bel lt0) (trodAll_cons_mk (Below.trod laidOut (by kernel_rfl) (of_decide_eq_true (by kernel_rfl)) k1 bel lt1) trodAll_mk0)), rfl, Below.frame bel _, fun h => by cases h⟩

theorem over : Rows.supplyWaitsRow.holds Try.pinned (OpenSpec.ofChange Rows.supplyWaitsSpec) :=
  OpenClaim.holds_of_wide 3 Try.f3 rfl rfl rfl rfl rfl rfl rfl ⟨rfl, rfl, rfl, rfl, rfl⟩ rfl rfl rfl rfl rfl (by kernel_rfl) Try.func3 (by kernel_rfl)
    (of_decide_eq_true (by kernel_rfl)) (by unfold Func.isWrapper; first | (rw [if_pos (by decide +kernel)]; kernel_rfl) | (rw [if_neg (by decide +kernel)]; exact ⟨rfl, rfl⟩))
    (fun os started H enc _ => lifted os started H enc)

/-- THE STATEMENT -/
theorem proved : Rows.SupplyWaitsSaid := over
#print axioms proved
end Go.Proofs.Ytkopplnjomkleaa.supplyWaits
