/-
  Package epoch: the Load of an announcement, Step, Done, Won, Epoch; the machines begin.
-/
import Derived.Test.YtngaokhlcdlpfaaEpMach
namespace Go.Proofs.Ytngaokhlcdlpfaa
open Go.RowKit
open W64
set_option maxRecDepth 100000
section
variable {w w' : World} {p g q at_ pn n b : Nat} {s : St}
/-- The next access behind the Load of an announcement. -/
def pinNx (b n k : Nat) (bar : Bool) : Value := if bar then .nilFunc else if k + 1 = n then meth 60 b else meth 56 b
set_option maxHeartbeats 4000000 in
theorem adv_pin (E : Epo w p g q at_ pn n s) (A : Off b p g q) {old : Int} {k : Nat} {won : Bool} (hk : k < n) (o0 : 0 ≤ old) (P : Whole w b 94 (adRow q old k won (meth 56 b))) :
    Calls Try.prog 56 #[.pointer (some ⟨b, 0, none⟩)] w fun e w' => e = .returned (.tuple #[]) ∧ Whole w' b 94 (adRow q old (k + 1) won (pinNx b n k (pinO (s.get ((pn : Int) + k)) && decide (pinE (s.get ((pn : Int) + k)) ≠ epN old)))) ∧ Mem w' p g (s.hit 1 ((pn : Int) + k) (s.get ((pn : Int) + k)) true) ∧ Else [b, p, g] w w' := by
  have c0 := P.cell (i := 0) rfl
  have c2 := P.cell (i := 2) rfl
  obtain ⟨k0, _, k2, k3⟩ := E.cells
  have hq := E.q2
  have hb := A.b2
  have hbq := A.bq
  have ht := E.top
  have hp := E.hp
  have s1 : wrap64 ((pn : Int) + k) = pn + k := wrap64_in (by omega) (by omega)
  have s2 : IntKind.i64.wrap ((pn : Int) + k) = pn + k := IntWalk.i64_in _ (by omega)
  have hh := Lib.hid (E.hasP hk)
  obtain ⟨x0, x1⟩ := E.ok ((pn : Int) + k)
  have HM := Lib.hid (load_in (E.mem.up (up_drew w)) (E.hasP hk))
  have HP := Lib.hid P
  have HA := Lib.hid A
  have hf := run_func
  obtain ⟨x, hx⟩ : ∃ x, s.get ((pn : Int) + k) = x := ⟨_, rfl⟩
  rw [hx] at HM x0 x1 ⊢
  obtain ⟨pe, hpe⟩ : ∃ pe, pinE x = pe := ⟨_, rfl⟩
  obtain ⟨po, hpo⟩ : ∃ po, pinO x = po := ⟨_, rfl⟩
  obtain ⟨ep, hep⟩ : ∃ ep, epN old = ep := ⟨_, rfl⟩
  have HX := Lib.hid (getPin_to hpe hpo x0 x1)
  have HO := Lib.hid (ofWord_to hep o0)
  rw [hpe, hpo, hep]
  clear P E A hx hpe hpo hep x0 x1
  have c3 := Lib.hid k3
  clear k3
  have ways : (po = true ∧ pe ≠ ep) ∨ ((po = true ∧ pe = ep) ∧ ((k : Int) + 1 = n)) ∨ ((po = true ∧ pe = ep) ∧ ((k : Int) + 1 ≠ n)) ∨ (po = false ∧ ((k : Int) + 1 = n)) ∨ (po = false ∧ ((k : Int) + 1 ≠ n)) := by
    cases po <;> by_cases h1 : pe = ep <;> by_cases h2 : (k : Int) + 1 = n <;> simp [h1, h2]
  rcases ways with ⟨rfl, h1⟩ | ⟨⟨rfl, h1⟩, h2⟩ | ⟨⟨rfl, h1⟩, h2⟩ | ⟨rfl, h2⟩ | ⟨rfl, h2⟩
  · have eN : pinNx b n k (true && decide (pe ≠ ep)) = .nilFunc := by simp [pinNx, h1]
    rw [eN]
    clear eN
    go_enter Try.func56, Try.ntmps56
    go_upto_region 0 with fail
    go_region_held3 (fun w' => w'.cell? ⟨b, 0, none⟩ = some (.pointer (some ⟨q, 0, none⟩)) ∧ w'.cell? ⟨b, 2, none⟩ = some (.int .i64 k) ∧ w'.cell? ⟨q, 0, none⟩ = some (.pointer (some ⟨p, 0, none⟩)) ∧ w'.cell? ⟨q, 2, none⟩ = some (.int .i64 pn)) ((first | exact ⟨c0, c2, k0, k2⟩ | exact ⟨E1.kept c0 hb, E1.kept c2 hb, E1.kept k0 hq, E1.kept k2 hq⟩))
      (first
        | (go_at_call 53; refine HM.out.mono ?_; rintro e w1 ⟨rfl, M1, E1⟩))
    have E2 := Lib.hid ((Else.of_up (up_drew w)).trans E1)
    have P1 := Lib.hid (E2.out.whole HP.out hb)
    have M2 := Lib.hid M1
    have j1 := P1.out.cell (i := 1) rfl
    have j2 := P1.out.cell (i := 2) rfl
    have j4 := P1.out.cell (i := 4) rfl
    have f2 := P1.out.frozen 2
    have f4 := P1.out.frozen 4
    clear M1 E1
    go_wp2_with (first
      | (go_at_call 40; refine (HX.out _).mono ?_; rintro e w2 ⟨rfl, rfl⟩)
      | (go_at_call 41; refine (HO.out _).mono ?_; rintro e w2 ⟨rfl, rfl⟩))
    go_end0
    exact ⟨rfl, (P1.out.set 2 _).set 4 _, (M2.out.own HA.out 2 _).own HA.out 4 _, else_self (else_self (E2.out.wide b) (by simp)) (by simp)⟩
  · have eN : pinNx b n k (true && decide (pe ≠ ep)) = meth 60 b := by simp [pinNx, h1]; omega
    rw [eN]
    clear eN
    have h3 : (k : Int) + 1 ≤ n := by omega
    have h4 : (n : Int) ≤ (k : Int) + 1 := by omega
    clear h2
    go_enter Try.func56, Try.ntmps56
    go_upto_region 0 with fail
    go_region_held3 (fun w' => w'.cell? ⟨b, 0, none⟩ = some (.pointer (some ⟨q, 0, none⟩)) ∧ w'.cell? ⟨b, 2, none⟩ = some (.int .i64 k) ∧ w'.cell? ⟨q, 0, none⟩ = some (.pointer (some ⟨p, 0, none⟩)) ∧ w'.cell? ⟨q, 2, none⟩ = some (.int .i64 pn)) ((first | exact ⟨c0, c2, k0, k2⟩ | exact ⟨E1.kept c0 hb, E1.kept c2 hb, E1.kept k0 hq, E1.kept k2 hq⟩))
      (first
        | (go_at_call 53; refine HM.out.mono ?_; rintro e w1 ⟨rfl, M1, E1⟩))
    have E2 := Lib.hid ((Else.of_up (up_drew w)).trans E1)
    have P1 := Lib.hid ((E2.out.whole HP.out hb).set 2 (.int .i64 ((k : Int) + 1)))
    have M2 := Lib.hid (M1.own HA.out 2 (.int .i64 ((k : Int) + 1)))
    have i3 := Lib.hid (kept_set (p := ⟨b, 2, none⟩) (v := .int .i64 ((k : Int) + 1)) (ad_ne hbq) (E2.out.kept c3.out hq))
    have E3 := Lib.hid (else_self (b := b) (o := 2) (u := .int .i64 ((k : Int) + 1)) (E2.out.wide b) (by simp))
    have g1 := (E2.out.whole HP.out hb).cell (i := 1) rfl
    have g2 := (E2.out.whole HP.out hb).cell (i := 2) rfl
    have g3 := (E2.out.whole HP.out hb).frozen 2
    clear M1 E1
    go_upto_region 5 with (first
      | (go_at_call 40; refine (HX.out _).mono ?_; rintro e w2 ⟨rfl, rfl⟩)
      | (go_at_call 41; refine (HO.out _).mono ?_; rintro e w2 ⟨rfl, rfl⟩))
    have j0 := P1.out.cell (i := 0) rfl
    have j2 := P1.out.cell (i := 2) rfl
    have j4 := P1.out.cell (i := 4) rfl
    have f4 := P1.out.frozen 4
    have j3 := i3.out
    go_quiet (fail)
    go_wp2_with fail
    go_end0
    exact ⟨rfl, (P1.out.drewN _).set 4 _, Mem.own (M2.out.up (Up.drewN _ _)) HA.out 4 _, else_self (E3.out.drewN _) (by simp)⟩
  · have eN : pinNx b n k (true && decide (pe ≠ ep)) = meth 56 b := by simp [pinNx, h1]; omega
    rw [eN]
    clear eN
    go_enter Try.func56, Try.ntmps56
    go_upto_region 0 with fail
    go_region_held3 (fun w' => w'.cell? ⟨b, 0, none⟩ = some (.pointer (some ⟨q, 0, none⟩)) ∧ w'.cell? ⟨b, 2, none⟩ = some (.int .i64 k) ∧ w'.cell? ⟨q, 0, none⟩ = some (.pointer (some ⟨p, 0, none⟩)) ∧ w'.cell? ⟨q, 2, none⟩ = some (.int .i64 pn)) ((first | exact ⟨c0, c2, k0, k2⟩ | exact ⟨E1.kept c0 hb, E1.kept c2 hb, E1.kept k0 hq, E1.kept k2 hq⟩))
      (first
        | (go_at_call 53; refine HM.out.mono ?_; rintro e w1 ⟨rfl, M1, E1⟩))
    have E2 := Lib.hid ((Else.of_up (up_drew w)).trans E1)
    have P1 := Lib.hid ((E2.out.whole HP.out hb).set 2 (.int .i64 ((k : Int) + 1)))
    have M2 := Lib.hid (M1.own HA.out 2 (.int .i64 ((k : Int) + 1)))
    have i3 := Lib.hid (kept_set (p := ⟨b, 2, none⟩) (v := .int .i64 ((k : Int) + 1)) (ad_ne hbq) (E2.out.kept c3.out hq))
    have E3 := Lib.hid (else_self (b := b) (o := 2) (u := .int .i64 ((k : Int) + 1)) (E2.out.wide b) (by simp))
    have g1 := (E2.out.whole HP.out hb).cell (i := 1) rfl
    have g2 := (E2.out.whole HP.out hb).cell (i := 2) rfl
    have g3 := (E2.out.whole HP.out hb).frozen 2
    clear M1 E1
    go_upto_region 5 with (first
      | (go_at_call 40; refine (HX.out _).mono ?_; rintro e w2 ⟨rfl, rfl⟩)
      | (go_at_call 41; refine (HO.out _).mono ?_; rintro e w2 ⟨rfl, rfl⟩))
    have j0 := P1.out.cell (i := 0) rfl
    have j2 := P1.out.cell (i := 2) rfl
    have j4 := P1.out.cell (i := 4) rfl
    have f4 := P1.out.frozen 4
    have j3 := i3.out
    go_quiet (fail)
    go_wp2_with fail
    go_end0
    exact ⟨rfl, P1.out.drewN _, M2.out.up (Up.drewN _ _), E3.out.drewN _⟩
  · have eN : pinNx b n k (false && decide (pe ≠ ep)) = meth 60 b := by simp [pinNx]; omega
    rw [eN]
    clear eN
    have h3 : (k : Int) + 1 ≤ n := by omega
    have h4 : (n : Int) ≤ (k : Int) + 1 := by omega
    clear h2
    go_enter Try.func56, Try.ntmps56
    go_upto_region 0 with fail
    go_region_held3 (fun w' => w'.cell? ⟨b, 0, none⟩ = some (.pointer (some ⟨q, 0, none⟩)) ∧ w'.cell? ⟨b, 2, none⟩ = some (.int .i64 k) ∧ w'.cell? ⟨q, 0, none⟩ = some (.pointer (some ⟨p, 0, none⟩)) ∧ w'.cell? ⟨q, 2, none⟩ = some (.int .i64 pn)) ((first | exact ⟨c0, c2, k0, k2⟩ | exact ⟨E1.kept c0 hb, E1.kept c2 hb, E1.kept k0 hq, E1.kept k2 hq⟩))
      (first
        | (go_at_call 53; refine HM.out.mono ?_; rintro e w1 ⟨rfl, M1, E1⟩))
    have E2 := Lib.hid ((Else.of_up (up_drew w)).trans E1)
    have P1 := Lib.hid ((E2.out.whole HP.out hb).set 2 (.int .i64 ((k : Int) + 1)))
    have M2 := Lib.hid (M1.own HA.out 2 (.int .i64 ((k : Int) + 1)))
    have i3 := Lib.hid (kept_set (p := ⟨b, 2, none⟩) (v := .int .i64 ((k : Int) + 1)) (ad_ne hbq) (E2.out.kept c3.out hq))
    have E3 := Lib.hid (else_self (b := b) (o := 2) (u := .int .i64 ((k : Int) + 1)) (E2.out.wide b) (by simp))
    have g1 := (E2.out.whole HP.out hb).cell (i := 1) rfl
    have g2 := (E2.out.whole HP.out hb).cell (i := 2) rfl
    have g3 := (E2.out.whole HP.out hb).frozen 2
    clear M1 E1
    go_upto_region 5 with (first
      | (go_at_call 40; refine (HX.out _).mono ?_; rintro e w2 ⟨rfl, rfl⟩)
      | (go_at_call 41; refine (HO.out _).mono ?_; rintro e w2 ⟨rfl, rfl⟩))
    have j0 := P1.out.cell (i := 0) rfl
    have j2 := P1.out.cell (i := 2) rfl
    have j4 := P1.out.cell (i := 4) rfl
    have f4 := P1.out.frozen 4
    have j3 := i3.out
    go_quiet (fail)
    go_wp2_with fail
    go_end0
    exact ⟨rfl, (P1.out.drewN _).set 4 _, Mem.own (M2.out.up (Up.drewN _ _)) HA.out 4 _, else_self (E3.out.drewN _) (by simp)⟩
  · have eN : pinNx b n k (false && decide (pe ≠ ep)) = meth 56 b := by simp [pinNx]; omega
    rw [eN]
    clear eN
    go_enter Try.func56, Try.ntmps56
    go_upto_region 0 with fail
    go_region_held3 (fun w' => w'.cell? ⟨b, 0, none⟩ = some (.pointer (some ⟨q, 0, none⟩)) ∧ w'.cell? ⟨b, 2, none⟩ = some (.int .i64 k) ∧ w'.cell? ⟨q, 0, none⟩ = some (.pointer (some ⟨p, 0, none⟩)) ∧ w'.cell? ⟨q, 2, none⟩ = some (.int .i64 pn)) ((first | exact ⟨c0, c2, k0, k2⟩ | exact ⟨E1.kept c0 hb, E1.kept c2 hb, E1.kept k0 hq, E1.kept k2 hq⟩))
      (first
        | (go_at_call 53; refine HM.out.mono ?_; rintro e w1 ⟨rfl, M1, E1⟩))
    have E2 := Lib.hid ((Else.of_up (up_drew w)).trans E1)
    have P1 := Lib.hid ((E2.out.whole HP.out hb).set 2 (.int .i64 ((k : Int) + 1)))
    have M2 := Lib.hid (M1.own HA.out 2 (.int .i64 ((k : Int) + 1)))
    have i3 := Lib.hid (kept_set (p := ⟨b, 2, none⟩) (v := .int .i64 ((k : Int) + 1)) (ad_ne hbq) (E2.out.kept c3.out hq))
    have E3 := Lib.hid (else_self (b := b) (o := 2) (u := .int .i64 ((k : Int) + 1)) (E2.out.wide b) (by simp))
    have g1 := (E2.out.whole HP.out hb).cell (i := 1) rfl
    have g2 := (E2.out.whole HP.out hb).cell (i := 2) rfl
    have g3 := (E2.out.whole HP.out hb).frozen 2
    clear M1 E1
    go_upto_region 5 with (first
      | (go_at_call 40; refine (HX.out _).mono ?_; rintro e w2 ⟨rfl, rfl⟩)
      | (go_at_call 41; refine (HO.out _).mono ?_; rintro e w2 ⟨rfl, rfl⟩))
    have j0 := P1.out.cell (i := 0) rfl
    have j2 := P1.out.cell (i := 2) rfl
    have j4 := P1.out.cell (i := 4) rfl
    have f4 := P1.out.frozen 4
    have j3 := i3.out
    go_quiet (fail)
    go_wp2_with fail
    go_end0
    exact ⟨rfl, P1.out.drewN _, M2.out.up (Up.drewN _ _), E3.out.drewN _⟩
end
end Go.Proofs.Ytngaokhlcdlpfaa
