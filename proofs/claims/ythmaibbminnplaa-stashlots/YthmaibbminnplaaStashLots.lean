/-
  StashLots of layer 8: what is given in lots is there as if it had been given one by one; All is what List was; what is taken and given again is where it was; for every list of at most 20 lots.
-/
import Derived.Test.YthmaibbminnplaaRows
import Derived.Test.YthmaibbminnplaaStashHold
import Derived.WalkKit
import Derived.ProofKit
import Derived.OpenShut
import Derived.ShutString
import Derived.ChangeOld
import Derived.Below
import Derived.Carry
import Derived.Lib.SmallJoins
import Derived.BigQuiet
namespace Go.Proofs.Ythmaibbminnplaa.stashLots
open Go.ChangeShapes Go.WideShapes Go.ChangeAt Go.RowKit Go.Joins Go.Proofs.Ythmaibbminnplaa W64
open Go.ChangeMaps (open_string shut_string)
set_option linter.unusedVariables false

theorem own : ownKnob Try.prog.godebug = none := by kernel_rfl
theorem laidOut : laidOutB Try.prog = true := by kernel_rfl


set_option maxHeartbeats 8000000 in
set_option maxRecDepth 100000 in
theorem walk (a0 : Int) (a1 : Option Addr) (len1 cap1 : Nat) (z1 : Nat → Value) (w : World) (w0 : (Lit.int .i64 a0).wf = true) (w1 : IsLots w a1 len1 cap1 z1) :
    Calls Try.prog 6 #[.int .i64 a0, .slice a1 len1 cap1] w fun e w' => e = .returned (.bool true) ∧ Up w w' := by
  clear w0
  have hm := w1.len_le
  unfold maxLen at hm
  have HW1 := Lib.hid w1
  clear w1
  by_cases hlen : len1 ≤ 20
  rotate_left
  · have hl2 : 20 < len1 := by omega
    go_enter Try.func6, Try.ntmps6
    go_wp2_with (first
      | (go_at_call 7; refine (first_any _).mono ?_; rintro e wA ⟨rfl, UA⟩))
    go_ret
    exact ⟨rfl, UA⟩
  obtain ⟨m, hm0⟩ : ∃ m, cutM a0 = m := ⟨_, rfl⟩
  have HC := Lib.hid hm0
  clear hm0
  go_enter Try.func6, Try.ntmps6
  go_wp2_with (first
    | (go_at_call 7; refine (first_any _).mono ?_; rintro e wA ⟨rfl, UA⟩)
    | (go_at_call 8; (with_reducible refine (snew_q wA _ HC.out).mono ?_); rintro e wB ⟨q, rfl, MB, -⟩; have HMB := Lib.hid MB; clear MB)
    | (go_at_call 8; (with_reducible refine (snew_q wB _ HC.out).mono ?_); rintro e wC ⟨p, rfl, MC, -⟩; have HMC := Lib.hid MC; clear MC))
  have HUA := Lib.hid UA
  have HP0 := Lib.hid (pair_new HMB.out HMC.out.sta HMC.out.up HMC.out.new)
  clear UA
  go_loopw [8, 9] (fun n i wr => LotRel wA q p m len1 n i wr) (fun _ i _ => len1 - (intOf i).toNat)
  case atStart => exact ⟨0, [], _, _, rfl, Nat.zero_le _, rfl, by simp, HP0.out⟩
  case round =>
    obtain ⟨j, ys, F, G, rfl, hj, rfl, hys, P⟩ := hrel
    have HP := Lib.hid P
    clear P
    have i0 : (0 : Int) ≤ (j : Int) := Int.natCast_nonneg _
    obtain ⟨n, hn⟩ : ∃ n, ys.length = n := ⟨_, rfl⟩
    have HN := Lib.hid hn
    rw [hn] at hys ⊢
    clear hn
    by_cases hlt : j < len1
    · have i1 : (j : Int) < (len1 : Int) := by omega
      obtain ⟨b, off, xs, rfl, hb, c0, R0⟩ := HW1.out.at hlt
      obtain ⟨A, N, c, hz⟩ : ∃ A N c, z1 j = .slice A N c := by obtain ⟨A, c, e⟩ := R0.slice; exact ⟨A, _, c, e⟩
      rw [hz] at c0 R0
      have HNX := Lib.hid (show xs.length = N by obtain ⟨A', c', e⟩ := R0.slice; injection e with _ e2 _; exact e2.symm)
      have HC0 := Lib.hid (HUA.out.kept c0)
      have HR0 := Lib.hid (R0.up HUA.out)
      have c1 := HP.out.up.kept HC0.out
      clear c0 R0 hb hz
      by_cases hn20 : 20 < N
      · go_wp2_with fail
        go_ret
        exact ⟨rfl, HUA.out.trans HP.out.up⟩
      have HL1 := Lib.hid (show ([] : List Int).length + xs.length ≤ 8192 by simp; have := HNX.out; omega)
      have HL2 := Lib.hid (show ys.length + ([] ++ xs).length ≤ 8192 by simp; have := HNX.out; have := HN.out; omega)
      go_wp2_with (first
        | (at_builtin; refine wpList_app (v := .slice none 0 0) rfl _ _ rfl rfl rfl (Ints.nil _) (HR0.out.up HP.out.up) HL1.out ?_; intro v5 w5 J5 G5 A5; obtain ⟨B5, M5, k5, rfl⟩ := shapeI J5; have HJ5 := Lib.hid J5; have HU5 := Lib.hid (app_new G5 A5); clear J5 G5 A5)
        | (go_at_call 11; (with_reducible refine (sgive_any (HP.out.a.up HU5.out.1) HJ5.out.rd HL2.out).mono ?_); rintro e w6 ⟨rfl, G6⟩; obtain ⟨F6, P6, -, -⟩ := (HP.out.then HU5.out.1).gaveA G6; have HP6 := Lib.hid P6; clear G6 P6))
      rw [List.nil_append] at HP6
      go_loopw [10] (fun i wr => InRel wA q p m ys xs F6 i wr) (fun i _ => N - (intOf i).toNat)
      case atStart => exact ⟨0, _, rfl, Nat.zero_le _, by simpa using HP6.out⟩
      case round =>
        obtain ⟨k, G7, rfl, hk, P7⟩ := hrel
        have HP7 := Lib.hid P7
        have d1 := P7.up.kept HC0.out
        clear P7
        have k0 : (0 : Int) ≤ (k : Int) := Int.natCast_nonneg _
        have hkN : k ≤ N := by have := HNX.out; omega
        clear hk
        by_cases hk2 : k < N
        · have k1 : (k : Int) < (N : Int) := by omega
          obtain ⟨g, o, rfl, d2⟩ := HR0.out.cell (j := k) (by rw [HNX.out]; exact hk2)
          replace d2 := HP7.out.up.kept d2
          obtain ⟨y, hy⟩ : ∃ y, xs.getD k 0 = y := ⟨_, rfl⟩
          have HS := Lib.hid (in_step (ys := ys) (xs := xs) (k := k) (by rw [HNX.out]; exact hk2))
          rw [hy] at d2 HS
          clear hy
          have HL := Lib.hid (show (ys ++ xs.take k).length + 1 ≤ 8192 by simp; have := HNX.out; have := HN.out; omega)
          go_wp2_with (first
            | (go_at_call 11; (with_reducible refine (sgive1 HP7.out.b HL.out HS.out).mono ?_); rintro e w8 ⟨rfl, G8⟩; obtain ⟨F8, P8, -, -⟩ := HP7.out.gaveB G8; have HP8 := Lib.hid P8; clear G8 P8))
          go_roundw
          case rel => exact ⟨k + 1, _, by go_num, by rw [HNX.out]; omega, HP8.out⟩
          case measure => simp [intOf]; omega
        · have k1 : ¬ (k : Int) < (N : Int) := by omega
          have HT := Lib.hid (show xs.take k = xs by apply List.take_of_length_le; rw [HNX.out]; omega)
          rw [HT.out] at HP7
          have n1 : n ≤ 400 := by omega
          have n2 : N ≤ 20 := by omega
          go_wp2_with fail
          go_roundw
          case rel => exact ⟨j + 1, ys ++ xs, _, _, by go_num, by omega, by simp [HN.out, HNX.out], by simp [HN.out, HNX.out]; omega, HP7.out⟩
          case measure => simp [intOf]; omega
    · have i1 : ¬ (j : Int) < (len1 : Int) := by omega
      have n1 : n ≤ 400 := by omega
      have HL := Lib.hid (show ys.length ≤ 8192 by rw [HN.out]; omega)
      have HL0 := Lib.hid (show ([] : List Int).length ≤ 8192 by simp)
      have HN0 := Lib.hid (show ([] : List Int).length = 0 from rfl)
      rcases List.eq_nil_or_concat ys with hnil | ⟨zs, y, hcat⟩
      · have en : n = 0 := by rw [← HN.out, hnil]; rfl
        subst en
        subst hnil
        go_wp2_with (first
          | (go_at_call 20; (with_reducible refine (slist_to HP.out.a HL.out HN.out).mono ?_); rintro e w5 ⟨A5, c5, rfl, J5, F5, U5⟩; have HH5 := Lib.hid (hold_new HP.out.mine J5 F5 U5); have HP5 := Lib.hid (HP.out.then U5); clear J5 F5 U5)
          | (go_at_call 20; (with_reducible refine (slist_to HP5.out.b HL.out HN.out).mono ?_); rintro e w6 ⟨A6, c6, rfl, J6, F6, U6⟩; have HH6 := Lib.hid (HH5.out.then U6); have HJ6 := Lib.hid J6; clear J6 F6 U6)
          | (go_at_call 15; (with_reducible refine (same_in HH6.out.ints.rd HJ6.out.rd).mono ?_); rintro e w7 ⟨rfl, U7⟩; have HH7 := Lib.hid (HH6.out.then U7); clear U7)
          | (go_at_call 13; (with_reducible refine (stake_none HH7.out.mine.sta).mono ?_); rintro e w8 ⟨rfl, rfl⟩; have HH9 := HH7)
          | (go_at_call 20; (with_reducible refine (slist_to HH9.out.mine.sta HL.out HN.out).mono ?_); rintro e wa ⟨Aa, ca, rfl, Ja, Fa, Ua⟩; have HHa := Lib.hid (HH9.out.then Ua); have HJa := Lib.hid Ja; clear Ja Fa Ua)
          | (go_at_call 15; (with_reducible refine (same_in HJa.out.rd HHa.out.ints.rd).mono ?_); rintro e wb ⟨rfl, Ub⟩; have HHb := Lib.hid (HHa.out.then Ub); clear Ub)
          | (go_at_call 18; (with_reducible refine (sall_to HHb.out.mine.sta HN.out).mono ?_); rintro e wc ⟨Ac, cc, rfl, Tc⟩; obtain ⟨Fc, Hc, Rc⟩ := HHb.out.took Tc; have HHc := Lib.hid Hc; have HRc := Lib.hid Rc; clear Tc Hc Rc)
          | (go_at_call 15; (with_reducible refine (same_in HRc.out HHc.out.ints.rd).mono ?_); rintro e wd ⟨rfl, Ud⟩; have HHd := Lib.hid (HHc.out.then Ud); clear Ud)
          | (go_at_call 21; (with_reducible refine (slen_to HHd.out.mine.sta HN0.out).mono ?_); rintro e we ⟨rfl, rfl⟩)
          | (go_at_call 20; (with_reducible refine (slist_to HHd.out.mine.sta HL0.out HN0.out).mono ?_); rintro e wf ⟨Af, cf, rfl, Jf, Ff, Uf⟩; have HHf := Lib.hid (HHd.out.then Uf); clear Jf Ff Uf))
        go_ret
        exact ⟨rfl, HUA.out.trans HHf.out.mine.up⟩
      · rw [List.concat_eq_append] at hcat
        have HCAT := Lib.hid hcat
        have HCAT2 := Lib.hid hcat.symm
        have n0 : (0 : Int) < (n : Int) := by rw [← HN.out, hcat]; simp <;> omega
        have HLZ := Lib.hid (show zs.length + 1 ≤ 8192 by have := HL.out; rw [hcat] at this; simpa using this)
        clear hcat
        go_wp2_with (first
          | (go_at_call 20; (with_reducible refine (slist_to HP.out.a HL.out HN.out).mono ?_); rintro e w5 ⟨A5, c5, rfl, J5, F5, U5⟩; have HH5 := Lib.hid (hold_new HP.out.mine J5 F5 U5); have HP5 := Lib.hid (HP.out.then U5); clear J5 F5 U5)
          | (go_at_call 20; (with_reducible refine (slist_to HP5.out.b HL.out HN.out).mono ?_); rintro e w6 ⟨A6, c6, rfl, J6, F6, U6⟩; have HH6 := Lib.hid (HH5.out.then U6); have HJ6 := Lib.hid J6; clear J6 F6 U6)
          | (go_at_call 15; (with_reducible refine (same_in HH6.out.ints.rd HJ6.out.rd).mono ?_); rintro e w7 ⟨rfl, U7⟩; have HH7 := Lib.hid (HH6.out.then U7); clear U7)
          | (go_at_call 13; (with_reducible refine (stake_to HH7.out.mine.sta HCAT.out).mono ?_); rintro e w8 ⟨rfl, G8⟩; obtain ⟨F8, H8⟩ := HH7.out.gave G8; have HH8 := Lib.hid H8; clear G8 H8)
          | (go_at_call 11; (with_reducible refine (sgive1 HH8.out.mine.sta HLZ.out HCAT2.out).mono ?_); rintro e w9 ⟨rfl, G9⟩; obtain ⟨F9, H9⟩ := HH8.out.gave G9; have HH9 := Lib.hid H9; clear G9 H9)
          | (go_at_call 20; (with_reducible refine (slist_to HH9.out.mine.sta HL.out HN.out).mono ?_); rintro e wa ⟨Aa, ca, rfl, Ja, Fa, Ua⟩; have HHa := Lib.hid (HH9.out.then Ua); have HJa := Lib.hid Ja; clear Ja Fa Ua)
          | (go_at_call 15; (with_reducible refine (same_in HJa.out.rd HHa.out.ints.rd).mono ?_); rintro e wb ⟨rfl, Ub⟩; have HHb := Lib.hid (HHa.out.then Ub); clear Ub)
          | (go_at_call 18; (with_reducible refine (sall_to HHb.out.mine.sta HN.out).mono ?_); rintro e wc ⟨Ac, cc, rfl, Tc⟩; obtain ⟨Fc, Hc, Rc⟩ := HHb.out.took Tc; have HHc := Lib.hid Hc; have HRc := Lib.hid Rc; clear Tc Hc Rc)
          | (go_at_call 15; (with_reducible refine (same_in HRc.out HHc.out.ints.rd).mono ?_); rintro e wd ⟨rfl, Ud⟩; have HHd := Lib.hid (HHc.out.then Ud); clear Ud)
          | (go_at_call 21; (with_reducible refine (slen_to HHd.out.mine.sta HN0.out).mono ?_); rintro e we ⟨rfl, rfl⟩)
          | (go_at_call 20; (with_reducible refine (slist_to HHd.out.mine.sta HL0.out HN0.out).mono ?_); rintro e wf ⟨Af, cf, rfl, Jf, Ff, Uf⟩; have HHf := Lib.hid (HHd.out.then Uf); clear Jf Ff Uf))
        go_ret
        exact ⟨rfl, HUA.out.trans HHf.out.mine.up⟩

set_option maxRecDepth 100000 in
theorem lifted (os : Os) (started : os.Started) (H : Type) (enc : TypeId × Value → H) :
    ReturnsInHanded {} Try.checked os 6 .any (Rows.stashLotsSpec.pre6 enc Try.prog Try.f6 Rows.stashLotsRow.domain false) (Rows.stashLotsSpec.post enc Try.prog Try.f6 false true false false) := by
  refine returnsInHanded_of_change (C := Try.checked) own started (by kernel_rfl) Try.func6
    (ChangeSpec.witness6 (enc := enc) (C := Try.checked) false ⟨#[], #[.int .i64 0, .slice none 0 0], []⟩ 8 (by kernel_rfl) (by kernel_rfl) (by kernel_rfl) (by kernel_rfl)) ?_
  intro W base args ds gs before hval0 hW hcnd _
  have hval : ∀ (j : Nat) t v, Try.f6.params[j]? = some t → args[j]? = some v → Value.okWide Try.prog W .any base t v := hval0
  have hW' := hW
  obtain ⟨p, q, hA0, hV, rfl, hfz, hnd⟩ := hW
  have hA : DataW.TrodAll enc Try.prog W 0 (fun _ => true) true Try.f6.params.toList args.toList ds p := hA0
  rw [Try.params6] at hA hval
  obtain ⟨v0, vs0, d0, ds0, p0, q0, hargs, rfl, rfl, h0, r0⟩ := trodAll_cons hA
  obtain ⟨v1, vs1, d1, ds1, p1, q1, rfl, rfl, rfl, h1, r1⟩ := trodAll_cons r0
  obtain ⟨rfl, rfl, rfl⟩ := trodAll_nil r1
  obtain rfl : args = #[v0, v1] := by cases args; simp_all
  obtain ⟨rfl, rfl⟩ := trodVars_none hV
  have k0 := h0
  have lt0 : ∀ x ∈ p0, x.block < W.heap.size := by obtain ⟨m, hm⟩ := k0; exact DataW.trod_lt m _ _ _ hm
  obtain ⟨a0, rfl, rfl, rfl, w0⟩ := open_int Try.underlying3 (hval 0 3 v0 rfl rfl) h0
  have k1 := h1
  have lt1 : ∀ x ∈ p1, x.block < W.heap.size := by obtain ⟨m, hm⟩ := k1; exact DataW.trod_lt m _ _ _ hm
  obtain ⟨a1, len1, cap1, z1, rfl, w1⟩ := open_lots Try.underlying44 (by kernel_rfl) ⟨3, Try.underlying28, Try.underlying3, by kernel_rfl⟩ (hval 1 44 v1 rfl rfl) h1
  clear hA0 hval0
  refine (walk a0 a1 len1 cap1 z1 W w0 w1).mono fun e W' ⟨he, bel⟩ => ?_
  subst he
  exact ⟨_, rfl, _, _, _, [], _, [], hW', trodAll_mk1 (shut_bool Try.underlying4 _), (trodAll_cons_mk (Below.trod laidOut (by kernel_rfl) (of_decide_eq_true (by kernel_rfl)) k0 bel lt0) (trodAll_cons_mk (Below.trod laidOut (by kernel_rfl) (of_decide_eq_true (by kernel_rfl)) k1 bel lt1) trodAll_mk0)), rfl, Below.frame bel _, fun h => by cases h⟩

theorem over : Rows.stashLotsRow.holds Try.pinned (OpenSpec.ofChange Rows.stashLotsSpec) :=
  OpenClaim.holds_of_wide 6 Try.f6 rfl rfl rfl rfl rfl rfl rfl ⟨rfl, rfl, rfl, rfl, rfl⟩ rfl rfl rfl rfl rfl (by kernel_rfl) Try.func6 (by kernel_rfl)
    (of_decide_eq_true (by kernel_rfl)) (by unfold Func.isWrapper; first | (rw [if_pos (by decide +kernel)]; kernel_rfl) | (rw [if_neg (by decide +kernel)]; exact ⟨rfl, rfl⟩))
    (fun os started H enc _ => lifted os started H enc)

/-- THE STATEMENT -/
theorem proved : Rows.StashLotsSaid := over
#print axioms proved
end Go.Proofs.Ythmaibbminnplaa.stashLots
