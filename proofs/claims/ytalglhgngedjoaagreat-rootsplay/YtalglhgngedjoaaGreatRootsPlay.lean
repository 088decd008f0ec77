/-
  RootsPlay of layer 11: four who create, look, end, give slots back, one access at a time, whoever goes on next: each cell behind each step, each machine's end, its point, what it tells, are what the reference says; for all numbers and every row of numbers.
-/
import Derived.Test.YtalglhgngedjoaaGreatPart33
import Derived.Test.YtalglhgngedjoaaGreatRows
import Derived.WalkKit
import Derived.ProofKit
import Derived.OpenShut
import Derived.ShutString
import Derived.ChangeOld
import Derived.Below
import Derived.Carry
import Derived.Lib.SmallJoins
namespace Go.Proofs.YtalglhgngedjoaaGreat.rootsPlay
open Go.ChangeShapes Go.WideShapes Go.ChangeAt Go.RowKit Go.Joins Go.Proofs.YtalglhgngedjoaaGreat W64
open Go.ChangeMaps (open_string shut_string)
set_option linter.unusedVariables false

theorem own : ownKnob Tryz.prog.godebug = none := by kernel_rfl
theorem laidOut : laidOutB Tryz.prog = true := by kernel_rfl


set_option maxHeartbeats 8000000 in
set_option maxRecDepth 100000 in
theorem walk (a0 : Int) (a1 : Option Addr) (len1 cap1 : Nat) (z1 : List Int) (w : World) (w0 : (Lit.int .i64 a0).wf = true) (w1 : IsRow .i64 w a1 len1 cap1 z1) :
    Calls Tryz.prog 3 #[.int .i64 a0, .slice a1 len1 cap1] w fun e w' => e = .returned (.bool true) ∧ Up w w' := by
  have HW1 := Lib.hid w1
  have hm := row_len w1
  unfold maxLen at hm
  clear w0 w1
  by_cases hlen : len1 ≤ 120
  rotate_left
  · have hl2 : (120 : Int) < (len1 : Int) := by omega
    go_enter Tryz.func3, Tryz.ntmps3
    go_wp2_with (go_at_call 6; refine (first11 _).mono ?_; rintro r wA ⟨rfl, UA⟩)
    go_ret
    exact ⟨rfl, UA⟩
  have hl2 : ¬ (120 : Int) < (len1 : Int) := by omega
  obtain ⟨y, hy, _, y0, y1⟩ := emod_letter a0 4 (by decide)
  obtain ⟨n, hn⟩ : ∃ n : Nat, 1 + y = (n : Int) := ⟨(1 + y).toNat, by omega⟩
  have n1 : 1 ≤ n := by omega
  have n4 : n ≤ 4 := by omega
  have HY := Lib.hid hy
  have HN := Lib.hid hn
  clear hy hn
  go_enter Tryz.func3, Tryz.ntmps3
  go_wp2_with (first
    | (go_at_call 6; refine (first11 _).mono ?_; rintro r wA ⟨rfl, UA⟩; have HUA := Lib.hid UA; clear UA)
    | (go_at_call 8; (with_reducible refine (number_is HY.out (by decide) (by decide) _).mono ?_); rintro r w' ⟨rfl, rfl⟩)
    | (go_at_call 7; refine (made_to HN.out n1 n4 _).mono ?_; rintro r w1 ⟨l, rfl, T1⟩; have HP0 := Lib.hid T1.play; clear T1))
  rw [HN.out]
  obtain ⟨bH, hbH⟩ : ∃ b, w1.heap.size = b := ⟨_, rfl⟩
  rw [hbH] at HP0
  rw [hbH]
  clear hbH
  obtain ⟨D, hD⟩ : ∃ D, bH + 1 = D := ⟨_, rfl⟩
  rw [hD] at HP0
  clear hD
  go_loopw [10] (fun i wr => PlayRel wA l n bH D len1 i wr) (fun i _ => len1 - (intOf i).toNat)
  case atStart => exact ⟨0, rfl, Nat.zero_le _, HP0.out⟩
  case round =>
    obtain ⟨j, rfl, hj, P⟩ := hrel
    have HP := Lib.hid P
    clear P HP0
    have j0 : (0 : Int) ≤ (j : Int) := Int.natCast_nonneg _
    by_cases hlt : j < len1
    · have j1 : (j : Int) < (len1 : Int) := by omega
      obtain ⟨bl, off, rfl, hb, hc⟩ := row_cell HW1.out hlt
      have hwf := row_wf HW1.out hlt
      replace hc := HUA.out.kept hc
      have HCA := Lib.hid hc
      replace hc := HP.out.upW.kept hc
      obtain ⟨z, hz⟩ : ∃ z, z1.getD j 0 = z := ⟨_, rfl⟩
      rw [hz] at hc hwf HCA
      clear hz
      obtain ⟨q1, q2⟩ := quo4 hwf
      clear hwf
      obtain ⟨u', hu', _, u0, u1⟩ := emod_letter z 4 (by decide)
      obtain ⟨u, rfl⟩ : ∃ u : Nat, u' = u := ⟨u'.toNat, by omega⟩
      obtain ⟨v, hv, _, v0, v1⟩ := emod_letter (z.tdiv 4) 240 (by decide)
      have HU := Lib.hid hu'
      have HV := Lib.hid hv
      have HV0 := Lib.hid v0
      have HV1 := Lib.hid v1
      have HT := Lib.hid (show 6 * j ≤ 1000 by omega)
      have HU4 := Lib.hid (show u < 4 by omega)
      clear hu' hv
      go_upto_region 13 with fail
      go_region_held3 (fun w' => w'.cell? ⟨bl, off + j, none⟩ = some (.int .i64 z)) ((first | exact hc | exact hc5 | exact hc6))
        (first
          | (go_at_call 8; (with_reducible refine (number_is HU.out (by decide) (by decide) _).mono ?_); rintro r w' ⟨rfl, rfl⟩)
          | (go_at_call 8; (with_reducible refine (number_is HV.out (by decide) (by decide) _).mono ?_); rintro r w' ⟨rfl, rfl⟩)
          | (go_at_call 9; refine (goes_any (HP.out.ups (up_drew _)) HT.out HU4.out HV0.out HV1.out).mono ?_; rintro r w5 ⟨rfl, O5⟩; have HO5 := Lib.hid O5; have hc5 := O5.upW.kept HCA.out; clear O5)
          | (go_at_call 10; (with_reducible refine (same_out HO5.out).mono ?_); rintro r w6 ⟨rfl, O6⟩; have HO6 := Lib.hid O6; have hc6 := O6.upW.kept HCA.out; clear O6))
      go_wp2_with fail
      go_roundw
      case rel => exact ⟨j + 1, by go_num, by omega, HO6.out⟩
      case measure => simp [intOf]; omega
    · have j1 : ¬ (j : Int) < (len1 : Int) := by omega
      obtain ⟨S, C1, C2⟩ := spare_out (HP.out.ups (up_drew _))
      have HC1 := Lib.hid C1
      have HC2 := Lib.hid C2
      have k8 := (C2 _ (Up.refl _)).1
      clear C1 C2
      go_upto_region 15 with fail
      go_region_held3 (fun w' => w'.cell? ⟨l.k, 8, none⟩ = some (.pointer (some ⟨l.qr, 0, none⟩))) ((first | exact k8 | exact k8b | exact k8c | exact k8d))
        (first
          | (go_at_call 12; refine HC1.out.mono ?_; rintro r w5 ⟨o5, rfl, J5, U5⟩; have k8b := (HC2.out w5 U5).1)
          | (go_at_call 13; refine (HC2.out w5 U5).2.mono ?_; rintro r w6 ⟨o6, rfl, J6, U6⟩; have k8c := U6.kept k8b)
          | (go_at_call 11; refine (same_in (xs := I S) (J5.rd.up U6) J6.rd).mono ?_; rintro r w7 ⟨rfl, U7⟩; have k8d := U7.kept k8c))
      go_wp2_with fail
      go_ret
      exact ⟨rfl, HUA.out.trans (HP.out.upW.trans ((((up_drew _).trans U5).trans U6).trans U7))⟩

set_option maxRecDepth 100000 in
theorem lifted (os : Os) (started : os.Started) (H : Type) (enc : TypeId × Value → H) :
    ReturnsInHanded {} Tryz.checked os 3 .any (Rows.rootsPlaySpec.pre6 enc Tryz.prog Tryz.f3 Rows.rootsPlayRow.domain false) (Rows.rootsPlaySpec.post enc Tryz.prog Tryz.f3 false true false false) := by
  refine returnsInHanded_of_change (C := Tryz.checked) own started (by kernel_rfl) Tryz.func3
    (ChangeSpec.witness6 (enc := enc) (C := Tryz.checked) false ⟨#[], #[.int .i64 0, .slice none 0 0], []⟩ 8 (by kernel_rfl) (by kernel_rfl) (by kernel_rfl) (by kernel_rfl)) ?_
  intro W base args ds gs before hval0 hW hcnd _
  have hval : ∀ (j : Nat) t v, Tryz.f3.params[j]? = some t → args[j]? = some v → Value.okWide Tryz.prog W .any base t v := hval0
  have hW' := hW
  obtain ⟨p, q, hA0, hV, rfl, hfz, hnd⟩ := hW
  have hA : DataW.TrodAll enc Tryz.prog W 0 (fun _ => true) true Tryz.f3.params.toList args.toList ds p := hA0
  rw [Tryz.params3] at hA hval
  obtain ⟨v0, vs0, d0, ds0, p0, q0, hargs, rfl, rfl, h0, r0⟩ := trodAll_cons hA
  obtain ⟨v1, vs1, d1, ds1, p1, q1, rfl, rfl, rfl, h1, r1⟩ := trodAll_cons r0
  obtain ⟨rfl, rfl, rfl⟩ := trodAll_nil r1
  obtain rfl : args = #[v0, v1] := by cases args; simp_all
  obtain ⟨rfl, rfl⟩ := trodVars_none hV
  have k0 := h0
  have lt0 : ∀ x ∈ p0, x.block < W.heap.size := by obtain ⟨m, hm⟩ := k0; exact DataW.trod_lt m _ _ _ hm
  obtain ⟨a0, rfl, rfl, rfl, w0⟩ := open_int Tryz.underlying3 (hval 0 3 v0 rfl rfl) h0
  have k1 := h1
  have lt1 : ∀ x ∈ p1, x.block < W.heap.size := by obtain ⟨m, hm⟩ := k1; exact DataW.trod_lt m _ _ _ hm
  obtain ⟨a1, len1, cap1, rfl⟩ := okWide_slice Tryz.underlying22 (hval 1 22 v1 rfl rfl)
  obtain ⟨z1, w1⟩ : ∃ zs, IsRow .i64 W a1 len1 cap1 zs := by
    obtain ⟨fuel, hf⟩ := h1
    rcases open_ints Tryz.underlying22 Tryz.underlying3 (by kernel_rfl) hf with ⟨hcs, _⟩ | ⟨x, l, c, zs, hcs, _, hl, hm, hz, _, hcell, hwz⟩
    · simp [Value.cells] at hcs
      obtain ⟨rfl, rfl, rfl⟩ := hcs
      exact ⟨[], .inl ⟨rfl, rfl, rfl, rfl⟩⟩
    · simp [Value.cells] at hcs
      obtain ⟨rfl, rfl, rfl⟩ := hcs
      exact ⟨zs, .inr ⟨_, rfl, hl, hm, by simpa using hz, hcell, hwz⟩⟩
  clear hA0 hval0
  refine (walk a0 a1 len1 cap1 z1 W w0 w1).mono fun e W' ⟨he, bel⟩ => ?_
  subst he
  exact ⟨_, rfl, _, _, _, [], _, [], hW', trodAll_mk1 (shut_bool Tryz.underlying4 _), (trodAll_cons_mk (Below.trod laidOut (by kernel_rfl) (of_decide_eq_true (by kernel_rfl)) k0 bel lt0) (trodAll_cons_mk (Below.trod laidOut (by kernel_rfl) (of_decide_eq_true (by kernel_rfl)) k1 bel lt1) trodAll_mk0)), rfl, Below.frame bel _, fun h => by cases h⟩

theorem over : Rows.rootsPlayRow.holds Tryz.pinned (OpenSpec.ofChange Rows.rootsPlaySpec) :=
  OpenClaim.holds_of_wide 3 Tryz.f3 rfl rfl rfl rfl rfl rfl rfl ⟨rfl, rfl, rfl, rfl, rfl⟩ rfl rfl rfl rfl rfl (by kernel_rfl) Tryz.func3 (by kernel_rfl)
    (of_decide_eq_true (by kernel_rfl)) (by unfold Func.isWrapper; first | (rw [if_pos (by decide +kernel)]; kernel_rfl) | (rw [if_neg (by decide +kernel)]; exact ⟨rfl, rfl⟩))
    (fun os started H enc _ => lifted os started H enc)

/-- THE STATEMENT -/
theorem proved : Rows.RootsPlaySaid := over
#print axioms proved
end Go.Proofs.YtalglhgngedjoaaGreat.rootsPlay
