/-
  The reference's Advance, one access after the other.
-/
import Derived.Test.YtngaokhlcdlpfaaRefEpoch
namespace Go.Proofs.Ytngaokhlcdlpfaa
open Go.RowKit
open W64
set_option maxRecDepth 100000
section
variable {w w' : World} {p g q at_ pn n b : Nat} {xs : List Int} {c : Int}
set_option maxHeartbeats 2000000 in
theorem radv_load (E : REpo w p g q at_ pn n xs c) (A : Off b p g q) {old : Int} {won : Bool} (P : Whole w b 86 (radRow q 0 old won false)) {y : Int} (hy : xs.getD at_ 0 = y) :
    Calls Try.prog 37 #[.pointer (some ⟨b, 0, none⟩)] w fun e w' => e = .returned (.bool true) ∧ Whole w' b 86 (radRow q 1 y won false) ∧ Ref w' p g xs (wrap64 (c + 1)) ∧ Else [b, p, g] w w' := by
  have c0 := P.cell (i := 0) rfl
  have c1 := P.cell (i := 1) rfl
  have c2 := P.cell (i := 2) rfl
  have c4 := P.cell (i := 4) rfl
  obtain ⟨k0, k1, _, _⟩ := E.cells
  have hb := A.b2
  have HL := Lib.hid (rload_in E.ref E.ha)
  rw [hy] at HL
  have HP := Lib.hid P
  have HA := Lib.hid A
  clear P E A hy
  go_enter Try.func37, Try.ntmps37
  go_wp2_with (go_at_call 49; refine HL.out.mono ?_; rintro e w1 ⟨rfl, M1, E1⟩; have HM1 := Lib.hid M1; have HE1 := Lib.hid E1; have P1 := Lib.hid (E1.whole HP.out hb); have j1 := P1.out.cell (i := 1) rfl; have j2 := P1.out.cell (i := 2) rfl; have f1 := P1.out.frozen 1; have f2 := P1.out.frozen 2; clear M1 E1)
  go_ret
  exact ⟨rfl, (P1.out.set 2 _).set 1 _, (HM1.out.own HA.out 2 _).own HA.out 1 _, else_self (else_self (HE1.out.wide b) (by simp)) (by simp)⟩
set_option maxHeartbeats 4000000 in
theorem radv_pin (E : REpo w p g q at_ pn n xs c) (A : Off b p g q) {i : Nat} {old : Int} {won : Bool} (i0 : i ≠ 0) (i1 : i ≤ n) (o0 : 0 ≤ old) (P : Whole w b 86 (radRow q i old won false)) :
    Calls Try.prog 37 #[.pointer (some ⟨b, 0, none⟩)] w fun e w' => e = .returned (.bool true) ∧ Whole w' b 86 (radRow q (i + 1) old won (pinO (xs.getD (pn + (i - 1)) 0) && decide (pinE (xs.getD (pn + (i - 1)) 0) ≠ epN old))) ∧ Ref w' p g xs (wrap64 (c + 1)) ∧ Else [b, p, g] w w' := by
  have c0 := P.cell (i := 0) rfl
  have c1 := P.cell (i := 1) rfl
  have c2 := P.cell (i := 2) rfl
  have c4 := P.cell (i := 4) rfl
  obtain ⟨k0, _, k2, k3⟩ := E.cells
  have hq := E.q2
  have hb := A.b2
  have ht := E.top
  have hp := E.hp
  obtain ⟨x0, x1⟩ := E.ok (pn + (i - 1))
  obtain ⟨m, rfl⟩ : ∃ m, i = m + 1 := ⟨i - 1, by omega⟩
  rw [show m + 1 - 1 = m from rfl] at *
  have hl := Lib.hid (show pn + m < xs.length by omega)
  have ne0 : ¬ ((m + 1 : Nat) : Int) = 0 := by omega
  have le1 : ((m + 1 : Nat) : Int) ≤ (n : Int) := by omega
  obtain ⟨x, hx⟩ : ∃ x, xs.getD (pn + m) 0 = x := ⟨_, rfl⟩
  have HX := Lib.hid hx
  rw [hx] at x0 x1 ⊢
  obtain ⟨pe, hpe⟩ : ∃ pe, pinE x = pe := ⟨_, rfl⟩
  obtain ⟨po, hpo⟩ : ∃ po, pinO x = po := ⟨_, rfl⟩
  obtain ⟨ep, hep⟩ : ∃ ep, epN old = ep := ⟨_, rfl⟩
  have HG := Lib.hid (rgetPin_to hpe hpo x0 x1)
  have HO := Lib.hid (cut_to hep o0)
  rw [hpe, hpo, hep]
  have HM := Lib.hid E.ref
  have HP := Lib.hid P
  have HA := Lib.hid A
  clear P E A hx hpe hpo hep x0 x1
  obtain ⟨M, hM⟩ : ∃ M : Nat, m + 1 = M := ⟨_, rfl⟩
  rw [hM] at c1 ne0 le1 HP
  have hi := Lib.hid (show IntKind.i64.wrap (IntKind.i64.wrap ((pn : Int) + (M : Int)) - 1) = ((pn + m : Nat) : Int) by
    rw [IntWalk.i64_in ((pn : Int) + (M : Int)) (by omega), IntWalk.i64_in _ (by omega)]; omega)
  rw [show m + 1 + 1 = M + 1 by omega]
  have m0 : (0 : Int) ≤ (M : Int) := Int.natCast_nonneg _
  have ways : (po = true ∧ pe ≠ ep) ∨ (po = true ∧ pe = ep) ∨ po = false := by
    cases po <;> by_cases h1 : pe = ep <;> simp [h1]
  rcases ways with ⟨rfl, h1⟩ | ⟨rfl, h1⟩ | rfl
  · have eB : (true && decide (pe ≠ ep)) = true := by simp [h1]
    rw [eB]
    clear eB
    go_enter Try.func37, Try.ntmps37
    go_upto_region 8 with fail
    go_quiet (fail)
    go_upto_region 9 with fail
    have HM2 := Lib.hid (HM.out.up (Up.drewN w nq))
    have HP2 := Lib.hid (HP.out.drewN nq)
    have HU2 := Lib.hid (Up.drewN w nq)
    replace c0 := HU2.out.kept c0
    replace c1 := HU2.out.kept c1
    replace k0 := HU2.out.kept k0
    replace k2 := HU2.out.kept k2
    generalize w.drewN nq = w7 at *
    go_region_held3 (fun w' => w'.cell? ⟨b, 0, none⟩ = some (.pointer (some ⟨q, 0, none⟩)) ∧ w'.cell? ⟨b, 1, none⟩ = some (.int .i64 M) ∧ w'.cell? ⟨q, 0, none⟩ = some (.pointer (some ⟨p, 0, none⟩)) ∧ w'.cell? ⟨q, 2, none⟩ = some (.int .i64 pn)) ((first | exact ⟨c0, c1, k0, k2⟩ | exact ⟨E1.kept c0 hb, E1.kept c1 hb, E1.kept k0 hq, E1.kept k2 hq⟩))
      (first
        | (go_at_call 16; refine (HG.out _).mono ?_; rintro e w5 ⟨rfl, rfl⟩)
        | (go_at_call 49; (with_reducible refine (rload_to (HM2.out.up (up_drew w7)) hi.out hl.out HX.out).mono ?_); rintro e w1 ⟨rfl, M1, E1⟩))
    have E2 := Lib.hid ((Else.of_up (up_drew w7)).trans E1)
    have P1 := Lib.hid (E2.out.whole HP2.out hb)
    have HM1 := Lib.hid M1
    have j1 := P1.out.cell (i := 1) rfl
    have j2 := P1.out.cell (i := 2) rfl
    have j4 := P1.out.cell (i := 4) rfl
    have f1 := P1.out.frozen 1
    have f4 := P1.out.frozen 4
    clear M1 E1
    have hbe : (pe != ep) = true := by simp [h1]
    go_wp2_with (go_at_call 42; refine (HO.out _).mono ?_; rintro e w5 ⟨rfl, rfl⟩)
    go_ret
    exact ⟨rfl, (P1.out.set 4 _).set 1 _, (HM1.out.own HA.out 4 _).own HA.out 1 _, else_self (else_self (((Else.of_up HU2.out).trans E2.out).wide b) (by simp)) (by simp)⟩
  · have eB : (true && decide (pe ≠ ep)) = false := by simp [h1]
    rw [eB]
    clear eB
    go_enter Try.func37, Try.ntmps37
    go_upto_region 8 with fail
    go_quiet (fail)
    go_upto_region 9 with fail
    have HM2 := Lib.hid (HM.out.up (Up.drewN w nq))
    have HP2 := Lib.hid (HP.out.drewN nq)
    have HU2 := Lib.hid (Up.drewN w nq)
    replace c0 := HU2.out.kept c0
    replace c1 := HU2.out.kept c1
    replace k0 := HU2.out.kept k0
    replace k2 := HU2.out.kept k2
    generalize w.drewN nq = w7 at *
    go_region_held3 (fun w' => w'.cell? ⟨b, 0, none⟩ = some (.pointer (some ⟨q, 0, none⟩)) ∧ w'.cell? ⟨b, 1, none⟩ = some (.int .i64 M) ∧ w'.cell? ⟨q, 0, none⟩ = some (.pointer (some ⟨p, 0, none⟩)) ∧ w'.cell? ⟨q, 2, none⟩ = some (.int .i64 pn)) ((first | exact ⟨c0, c1, k0, k2⟩ | exact ⟨E1.kept c0 hb, E1.kept c1 hb, E1.kept k0 hq, E1.kept k2 hq⟩))
      (first
        | (go_at_call 16; refine (HG.out _).mono ?_; rintro e w5 ⟨rfl, rfl⟩)
        | (go_at_call 49; (with_reducible refine (rload_to (HM2.out.up (up_drew w7)) hi.out hl.out HX.out).mono ?_); rintro e w1 ⟨rfl, M1, E1⟩))
    have E2 := Lib.hid ((Else.of_up (up_drew w7)).trans E1)
    have P1 := Lib.hid (E2.out.whole HP2.out hb)
    have HM1 := Lib.hid M1
    have j1 := P1.out.cell (i := 1) rfl
    have j2 := P1.out.cell (i := 2) rfl
    have j4 := P1.out.cell (i := 4) rfl
    have f1 := P1.out.frozen 1
    have f4 := P1.out.frozen 4
    clear M1 E1
    have hbe : (pe != ep) = false := by simp [h1]
    go_wp2_with (go_at_call 42; refine (HO.out _).mono ?_; rintro e w5 ⟨rfl, rfl⟩)
    go_ret
    exact ⟨rfl, (P1.out.set 4 _).set 1 _, (HM1.out.own HA.out 4 _).own HA.out 1 _, else_self (else_self (((Else.of_up HU2.out).trans E2.out).wide b) (by simp)) (by simp)⟩
  · have eB : (false && decide (pe ≠ ep)) = false := by simp
    rw [eB]
    clear eB
    go_enter Try.func37, Try.ntmps37
    go_upto_region 8 with fail
    go_quiet (fail)
    go_upto_region 9 with fail
    have HM2 := Lib.hid (HM.out.up (Up.drewN w nq))
    have HP2 := Lib.hid (HP.out.drewN nq)
    have HU2 := Lib.hid (Up.drewN w nq)
    replace c0 := HU2.out.kept c0
    replace c1 := HU2.out.kept c1
    replace k0 := HU2.out.kept k0
    replace k2 := HU2.out.kept k2
    generalize w.drewN nq = w7 at *
    go_region_held3 (fun w' => w'.cell? ⟨b, 0, none⟩ = some (.pointer (some ⟨q, 0, none⟩)) ∧ w'.cell? ⟨b, 1, none⟩ = some (.int .i64 M) ∧ w'.cell? ⟨q, 0, none⟩ = some (.pointer (some ⟨p, 0, none⟩)) ∧ w'.cell? ⟨q, 2, none⟩ = some (.int .i64 pn)) ((first | exact ⟨c0, c1, k0, k2⟩ | exact ⟨E1.kept c0 hb, E1.kept c1 hb, E1.kept k0 hq, E1.kept k2 hq⟩))
      (first
        | (go_at_call 16; refine (HG.out _).mono ?_; rintro e w5 ⟨rfl, rfl⟩)
        | (go_at_call 49; (with_reducible refine (rload_to (HM2.out.up (up_drew w7)) hi.out hl.out HX.out).mono ?_); rintro e w1 ⟨rfl, M1, E1⟩))
    have E2 := Lib.hid ((Else.of_up (up_drew w7)).trans E1)
    have P1 := Lib.hid (E2.out.whole HP2.out hb)
    have HM1 := Lib.hid M1
    have j1 := P1.out.cell (i := 1) rfl
    have j2 := P1.out.cell (i := 2) rfl
    have j4 := P1.out.cell (i := 4) rfl
    have f1 := P1.out.frozen 1
    have f4 := P1.out.frozen 4
    clear M1 E1
    go_wp2_with (go_at_call 42; refine (HO.out _).mono ?_; rintro e w5 ⟨rfl, rfl⟩)
    go_ret
    exact ⟨rfl, (P1.out.set 4 _).set 1 _, (HM1.out.own HA.out 4 _).own HA.out 1 _, else_self (else_self (((Else.of_up HU2.out).trans E2.out).wide b) (by simp)) (by simp)⟩
set_option maxHeartbeats 2000000 in
theorem radv_turn (E : REpo w p g q at_ pn n xs c) (A : Off b p g q) {i : Nat} {old : Int} {won : Bool} (i1 : n < i) (i2 : i ≤ 1000) (P : Whole w b 86 (radRow q i old won false)) {d : Bool} {xs' : List Int}
    (hc : ∀ {w1 : World}, Ref w1 p g xs c → Calls Try.prog 52 #[.pointer (some ⟨p, 0, none⟩), .int .i64 at_, .int .u64 old, .int .u64 (upN old)] w1 fun e w' => e = .returned (.bool d) ∧ Ref w' p g xs' (wrap64 (c + 1)) ∧ Else [p, g] w1 w') :
    Calls Try.prog 37 #[.pointer (some ⟨b, 0, none⟩)] w fun e w' => e = .returned (.bool true) ∧ Whole w' b 86 (radRow q (i + 1) old d true) ∧ Ref w' p g xs' (wrap64 (c + 1)) ∧ Else [b, p, g] w w' := by
  have c0 := P.cell (i := 0) rfl
  have c1 := P.cell (i := 1) rfl
  have c2 := P.cell (i := 2) rfl
  have c3 := P.cell (i := 3) rfl
  have c4 := P.cell (i := 4) rfl
  obtain ⟨k0, k1, _, k3⟩ := E.cells
  have hq := E.q2
  have hb := A.b2
  have hbq := A.bq
  have ne0 : ¬ (i : Int) = 0 := by omega
  have le1 : ¬ (i : Int) ≤ (n : Int) := by omega
  have m0 : (0 : Int) ≤ (i : Int) := Int.natCast_nonneg _
  have HM := Lib.hid E.ref
  have HC := Lib.hid (fun w1 => @hc w1)
  unfold upN at HC
  have HP := Lib.hid P
  have HA := Lib.hid A
  have f3' := P.frozen 3
  clear P E A hc
  go_enter Try.func37, Try.ntmps37
  go_upto_region 8 with fail
  go_quiet (fail)
  go_upto_region 4 with fail
  have HM2 := Lib.hid (HM.out.up (Up.drewN w nq))
  have HP2 := Lib.hid (HP.out.drewN nq)
  have HU2 := Lib.hid (Up.drewN w nq)
  replace c0 := HU2.out.kept c0
  replace c2 := HU2.out.kept c2
  replace c3 := HU2.out.kept c3
  replace k0 := HU2.out.kept k0
  replace k1 := HU2.out.kept k1
  have f3 := HP2.out.frozen 3
  clear f3'
  generalize w.drewN nq = w7 at *
  go_region_held3 (fun w' => w'.cell? ⟨b, 0, none⟩ = some (.pointer (some ⟨q, 0, none⟩)) ∧ w'.cell? ⟨b, 2, none⟩ = some (.int .u64 old) ∧ w'.cell? ⟨q, 0, none⟩ = some (.pointer (some ⟨p, 0, none⟩)) ∧ w'.cell? ⟨q, 1, none⟩ = some (.int .i64 at_)) ((first | exact ⟨c0, c2, k0, k1⟩ | exact ⟨E1.kept c0 hb, E1.kept c2 hb, E1.kept k0 hq, E1.kept k1 hq⟩ | exact ⟨kept_set (off_ne (by decide)) (E1.kept c0 hb), kept_set (off_ne (by decide)) (E1.kept c2 hb), kept_set (ad_ne hbq) (E1.kept k0 hq), kept_set (ad_ne hbq) (E1.kept k1 hq)⟩))
    (first
      | (go_at_call 52; refine (HC.out _ (HM2.out.up (up_drew w7))).mono ?_; rintro e w1 ⟨rfl, M1, E1⟩; have d3 := E1.kept (p := ⟨b, 3, none⟩) c3 hb; have g3 := (((Else.of_up (up_drew w7)).trans E1).whole HP2.out hb).frozen 3))
  have E2 := Lib.hid ((Else.of_up (up_drew w7)).trans E1)
  have P2 := Lib.hid ((E2.out.whole HP2.out hb).set 3 (.bool d))
  have j1 := P2.out.cell (i := 1) rfl
  have j4 := P2.out.cell (i := 4) rfl
  have f1 := P2.out.frozen 1
  have f4 := P2.out.frozen 4
  clear d3 g3
  go_wp2_with fail
  go_ret
  exact ⟨rfl, (P2.out.set 4 _).set 1 _, ((M1.own HA.out 3 _).own HA.out 4 _).own HA.out 1 _, else_self (else_self (else_self (((Else.of_up HU2.out).trans E2.out).wide b) (by simp)) (by simp)) (by simp)⟩
end
end Go.Proofs.Ytngaokhlcdlpfaa
