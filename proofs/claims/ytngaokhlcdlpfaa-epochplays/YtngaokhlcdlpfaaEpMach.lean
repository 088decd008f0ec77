/-
  Package epoch: the machines' accesses.
-/
import Derived.Test.YtngaokhlcdlpfaaEpMath
namespace Go.Proofs.Ytngaokhlcdlpfaa
open Go.RowKit
open W64
set_option maxRecDepth 100000
section
variable {w w' : World} {p g q at_ pn n b : Nat} {s : St}
/-- A machine lies apart from the epoch and its memory. -/
structure Off (b p g q : Nat) : Prop where
  bp : b ≠ p
  bg : b ≠ g
  bq : b ≠ q
theorem Off.b2 (A : Off b p g q) : b ∉ [p, g] := by simp [A.bp, A.bg]
theorem Off.p1 (A : Off b p g q) : p ∉ [b] := by simp [A.bp.symm]
theorem Off.g1 (A : Off b p g q) : g ∉ [b] := by simp [A.bg.symm]
theorem Off.q3 (A : Off b p g q) (E : Epo w p g q at_ pn n s) : q ∉ [b, p, g] := not_three A.bq.symm E.np E.ng
theorem Mem.own (M : Mem w p g s) (A : Off b p g q) (o : Nat) (u : Value) : Mem (w.setCell ⟨b, o, none⟩ u) p g s :=
  M.else (l := [b]) (Else.set (Else.refl [b] w) (p := ⟨b, o, none⟩) (.inl (by simp)) u) A.p1 A.g1
abbrev enRow (q wk : Nat) (ep : Int) (nx : Value) : Array Value := #[.pointer (some ⟨q, 0, none⟩), .int .i64 wk, .int .i64 ep, nx]
abbrev leRow (q wk : Nat) (nx : Value) : Array Value := #[.pointer (some ⟨q, 0, none⟩), .int .i64 wk, nx]
abbrev adRow (q : Nat) (old : Int) (k : Nat) (won : Bool) (nx : Value) : Array Value := #[.pointer (some ⟨q, 0, none⟩), .int .u64 old, .int .i64 k, .bool won, nx]

set_option maxHeartbeats 2000000 in
theorem enter_load (E : Epo w p g q at_ pn n s) (A : Off b p g q) {wk : Nat} {ep : Int} {nx : Value} (P : Whole w b 91 (enRow q wk ep nx)) {y : Int} (hy : epN (s.get at_) = y) :
    Calls Try.prog 43 #[.pointer (some ⟨b, 0, none⟩)] w fun e w' => e = .returned (.tuple #[]) ∧ Whole w' b 91 (enRow q wk y (meth 54 b)) ∧ Mem w' p g (s.hit 1 at_ (s.get at_) true) ∧ Else [b, p, g] w w' := by
  have c0 := P.cell (i := 0) rfl
  obtain ⟨k0, k1, _, _⟩ := E.cells
  have hq := E.q2
  have hb := A.b2
  have hh := Lib.hid E.hasA
  have hk := Lib.hid (E.ok at_)
  have HY := Lib.hid hy
  have HM := Lib.hid E.mem
  have HP := Lib.hid P
  have HA := Lib.hid A
  have hf := run_func
  clear P E A hy
  go_enter Try.func43, Try.ntmps43
  go_upto_region 0 with fail
  go_region_held3 (fun w' => w'.cell? ⟨b, 0, none⟩ = some (.pointer (some ⟨q, 0, none⟩)) ∧ w'.cell? ⟨q, 0, none⟩ = some (.pointer (some ⟨p, 0, none⟩)) ∧ w'.cell? ⟨q, 1, none⟩ = some (.int .i64 at_)) ((first | exact ⟨c0, k0, k1⟩ | exact ⟨E1.kept c0 hb, E1.kept k0 hq, E1.kept k1 hq⟩))
    (first
      | (go_at_call 53; refine (load_in (HM.out.up (up_drew w)) hh.out).mono ?_; rintro e w1 ⟨rfl, M1, E1⟩))
  have E2 := Lib.hid ((Else.of_up (up_drew w)).trans E1)
  have P1 := Lib.hid (E2.out.whole HP.out hb)
  have M2 := Lib.hid M1
  have j2 := P1.out.cell (i := 2) rfl
  have j3 := P1.out.cell (i := 3) rfl
  have f2 := P1.out.frozen 2
  have f3 := P1.out.frozen 3
  clear M1 E1
  go_wp2_with (go_at_call 41; refine (ofWord_to HY.out hk.out.1 _).mono ?_; rintro e w2 ⟨rfl, rfl⟩)
  go_end0
  exact ⟨rfl, (P1.out.set 2 _).set 3 _, (M2.out.own HA.out 2 _).own HA.out 3 _, else_self (else_self (E2.out.wide b) (by simp)) (by simp)⟩
set_option maxHeartbeats 2000000 in
theorem enter_store (E : Epo w p g q at_ pn n s) (A : Off b p g q) {wk : Nat} {ep : Int} {nx : Value} (hw : wk < n) (P : Whole w b 91 (enRow q wk ep nx)) {y : Int} (hB : pinB ep = true) (hy : pinV ep = y) :
    Calls Try.prog 54 #[.pointer (some ⟨b, 0, none⟩)] w fun e w' => e = .returned (.tuple #[]) ∧ Whole w' b 91 (enRow q wk ep .nilFunc) ∧ Mem w' p g (s.hit 2 ((pn : Int) + wk) y true) ∧ Else [b, p, g] w w' := by
  have c0 := P.cell (i := 0) rfl
  have c1 := P.cell (i := 1) rfl
  have c2 := P.cell (i := 2) rfl
  obtain ⟨k0, _, k2, _⟩ := E.cells
  have hq := E.q2
  have hb := A.b2
  have ht := E.top
  have hp := E.hp
  have s1 : wrap64 ((pn : Int) + wk) = pn + wk := wrap64_in (by omega) (by omega)
  have s2 : IntKind.i64.wrap ((pn : Int) + wk) = pn + wk := IntWalk.i64_in _ (by omega)
  have hh := Lib.hid (E.hasP hw)
  have HY := Lib.hid hy
  have HB := Lib.hid hB
  have HM := Lib.hid E.mem
  have HP := Lib.hid P
  have HA := Lib.hid A
  clear P E A hy hB
  go_enter Try.func54, Try.ntmps54
  go_upto_region 1 with (go_at_call 29; refine (putPin_to HY.out HB.out _).mono ?_; rintro e w2 ⟨rfl, rfl⟩)
  go_region_held3 (fun w' => w'.cell? ⟨b, 0, none⟩ = some (.pointer (some ⟨q, 0, none⟩)) ∧ w'.cell? ⟨b, 1, none⟩ = some (.int .i64 wk) ∧ w'.cell? ⟨q, 0, none⟩ = some (.pointer (some ⟨p, 0, none⟩)) ∧ w'.cell? ⟨q, 2, none⟩ = some (.int .i64 pn)) ((first | exact ⟨c0, c1, k0, k2⟩ | exact ⟨E1.kept c0 hb, E1.kept c1 hb, E1.kept k0 hq, E1.kept k2 hq⟩))
    (first
      | (go_at_call 55; refine (store_in _ (HM.out.up (up_drew w)) hh.out).mono ?_; rintro e w1 ⟨rfl, M1, E1⟩))
  have E2 := Lib.hid ((Else.of_up (up_drew w)).trans E1)
  have P1 := Lib.hid (E2.out.whole HP.out hb)
  have M2 := Lib.hid M1
  have j3 := P1.out.cell (i := 3) rfl
  have f3 := P1.out.frozen 3
  clear M1 E1
  go_wp2_with fail
  go_end0
  exact ⟨rfl, P1.out.set 3 _, M2.out.own HA.out 3 _, else_self (E2.out.wide b) (by simp)⟩
set_option maxHeartbeats 2000000 in
theorem leave_store (E : Epo w p g q at_ pn n s) (A : Off b p g q) {wk : Nat} {nx : Value} (hw : wk < n) (P : Whole w b 96 (leRow q wk nx)) :
    Calls Try.prog 45 #[.pointer (some ⟨b, 0, none⟩)] w fun e w' => e = .returned (.tuple #[]) ∧ Whole w' b 96 (leRow q wk .nilFunc) ∧ Mem w' p g (s.hit 2 ((pn : Int) + wk) 0 true) ∧ Else [b, p, g] w w' := by
  have c0 := P.cell (i := 0) rfl
  have c1 := P.cell (i := 1) rfl
  obtain ⟨k0, _, k2, _⟩ := E.cells
  have hq := E.q2
  have hb := A.b2
  have ht := E.top
  have hp := E.hp
  have s1 : wrap64 ((pn : Int) + wk) = pn + wk := wrap64_in (by omega) (by omega)
  have s2 : IntKind.i64.wrap ((pn : Int) + wk) = pn + wk := IntWalk.i64_in _ (by omega)
  have hh := Lib.hid (E.hasP hw)
  have HM := Lib.hid E.mem
  have HP := Lib.hid P
  have HA := Lib.hid A
  clear P E A
  go_enter Try.func45, Try.ntmps45
  go_upto_region 0 with fail
  go_region_held3 (fun w' => w'.cell? ⟨b, 0, none⟩ = some (.pointer (some ⟨q, 0, none⟩)) ∧ w'.cell? ⟨b, 1, none⟩ = some (.int .i64 wk) ∧ w'.cell? ⟨q, 0, none⟩ = some (.pointer (some ⟨p, 0, none⟩)) ∧ w'.cell? ⟨q, 2, none⟩ = some (.int .i64 pn)) ((first | exact ⟨c0, c1, k0, k2⟩ | exact ⟨E1.kept c0 hb, E1.kept c1 hb, E1.kept k0 hq, E1.kept k2 hq⟩))
    (first
      | (go_at_call 55; refine (store_in _ (HM.out.up (up_drew w)) hh.out).mono ?_; rintro e w1 ⟨rfl, M1, E1⟩))
  have E2 := Lib.hid ((Else.of_up (up_drew w)).trans E1)
  have P1 := Lib.hid (E2.out.whole HP.out hb)
  have M2 := Lib.hid M1
  have j2 := P1.out.cell (i := 2) rfl
  have f2 := P1.out.frozen 2
  clear M1 E1
  go_wp2_with fail
  go_end0
  exact ⟨rfl, P1.out.set 2 _, M2.out.own HA.out 2 _, else_self (E2.out.wide b) (by simp)⟩

set_option maxHeartbeats 2000000 in
theorem adv_load (E : Epo w p g q at_ pn n s) (A : Off b p g q) {old : Int} {k : Nat} {won : Bool} {nx : Value} (P : Whole w b 94 (adRow q old k won nx)) :
    Calls Try.prog 46 #[.pointer (some ⟨b, 0, none⟩)] w fun e w' => e = .returned (.tuple #[]) ∧ Whole w' b 94 (adRow q (s.get at_) k won (meth 56 b)) ∧ Mem w' p g (s.hit 1 at_ (s.get at_) true) ∧ Else [b, p, g] w w' := by
  have c0 := P.cell (i := 0) rfl
  have c3 := P.cell (i := 1) rfl
  obtain ⟨k0, k1, _, _⟩ := E.cells
  have hq := E.q2
  have hb := A.b2
  have hbq := A.bq
  have f3 := P.frozen 1
  have hh := Lib.hid E.hasA
  have HM := Lib.hid E.mem
  have HP := Lib.hid P
  have HA := Lib.hid A
  have hf := run_func
  clear P E A
  go_enter Try.func46, Try.ntmps46
  go_upto_region 0 with fail
  go_region_held3 (fun w' => w'.cell? ⟨b, 0, none⟩ = some (.pointer (some ⟨q, 0, none⟩)) ∧ w'.cell? ⟨q, 0, none⟩ = some (.pointer (some ⟨p, 0, none⟩)) ∧ w'.cell? ⟨q, 1, none⟩ = some (.int .i64 at_)) ((first | exact ⟨c0, k0, k1⟩ | exact ⟨E1.kept c0 hb, E1.kept k0 hq, E1.kept k1 hq⟩ | exact ⟨kept_set (off_ne (by decide)) (E1.kept c0 hb), kept_set (ad_ne hbq) (E1.kept k0 hq), kept_set (ad_ne hbq) (E1.kept k1 hq)⟩))
    (first
      | (go_at_call 53; refine (load_in (HM.out.up (up_drew w)) hh.out).mono ?_; rintro e w1 ⟨rfl, M1, E1⟩; have d3 := E1.kept (p := ⟨b, 1, none⟩) c3 hb; have g3 := (((Else.of_up (up_drew w)).trans E1).whole HP.out hb).frozen 1))
  have E2 := Lib.hid ((Else.of_up (up_drew w)).trans E1)
  have P2 := Lib.hid ((E2.out.whole HP.out hb).set 1 (.int .u64 (s.get at_)))
  have j4 := P2.out.cell (i := 4) rfl
  have f4 := P2.out.frozen 4
  clear d3 g3
  go_wp2_with fail
  go_end0
  exact ⟨rfl, P2.out.set 4 _, (M1.own HA.out 1 _).own HA.out 4 _, else_self (else_self (E2.out.wide b) (by simp)) (by simp)⟩
set_option maxHeartbeats 2000000 in
theorem adv_turn (E : Epo w p g q at_ pn n s) (A : Off b p g q) {old : Int} {k : Nat} {won : Bool} {nx : Value} (P : Whole w b 94 (adRow q old k won nx)) {c : Bool} {s' : St}
    (hc : ∀ {w1 : World}, Mem w1 p g s → Calls Try.prog 61 #[.pointer (some ⟨p, 0, none⟩), .int .i64 at_, .int .u64 old, .int .u64 (upN old)] w1 fun e w' => e = .returned (.tuple #[.bool c, .int .i64 0]) ∧ Mem w' p g s' ∧ Else [p, g] w1 w') :
    Calls Try.prog 60 #[.pointer (some ⟨b, 0, none⟩)] w fun e w' => e = .returned (.tuple #[]) ∧ Whole w' b 94 (adRow q old k c .nilFunc) ∧ Mem w' p g s' ∧ Else [b, p, g] w w' := by
  have c0 := P.cell (i := 0) rfl
  have c1 := P.cell (i := 1) rfl
  have c3 := P.cell (i := 3) rfl
  obtain ⟨k0, k1, _, _⟩ := E.cells
  have hq := E.q2
  have hb := A.b2
  have hbq := A.bq
  have f3 := P.frozen 3
  have HC := Lib.hid (hc (E.mem.up (up_drew w)))
  unfold upN at HC
  have HP := Lib.hid P
  have HA := Lib.hid A
  clear P E A hc
  go_enter Try.func60, Try.ntmps60
  go_upto_region 0 with fail
  go_region_held3 (fun w' => w'.cell? ⟨b, 0, none⟩ = some (.pointer (some ⟨q, 0, none⟩)) ∧ w'.cell? ⟨b, 1, none⟩ = some (.int .u64 old) ∧ w'.cell? ⟨q, 0, none⟩ = some (.pointer (some ⟨p, 0, none⟩)) ∧ w'.cell? ⟨q, 1, none⟩ = some (.int .i64 at_)) ((first | exact ⟨c0, c1, k0, k1⟩ | exact ⟨E1.kept c0 hb, E1.kept c1 hb, E1.kept k0 hq, E1.kept k1 hq⟩ | exact ⟨kept_set (off_ne (by decide)) (E1.kept c0 hb), kept_set (off_ne (by decide)) (E1.kept c1 hb), kept_set (ad_ne hbq) (E1.kept k0 hq), kept_set (ad_ne hbq) (E1.kept k1 hq)⟩))
    (first
      | (go_at_call 61; refine HC.out.mono ?_; rintro e w1 ⟨rfl, M1, E1⟩; have d3 := E1.kept (p := ⟨b, 3, none⟩) c3 hb; have g3 := (((Else.of_up (up_drew w)).trans E1).whole HP.out hb).frozen 3))
  have E2 := Lib.hid ((Else.of_up (up_drew w)).trans E1)
  have P2 := Lib.hid ((E2.out.whole HP.out hb).set 3 (.bool c))
  have j4 := P2.out.cell (i := 4) rfl
  have f4 := P2.out.frozen 4
  clear d3 g3
  go_wp2_with fail
  go_end0
  exact ⟨rfl, P2.out.set 4 _, (M1.own HA.out 3 _).own HA.out 4 _, else_self (else_self (E2.out.wide b) (by simp)) (by simp)⟩
end
end Go.Proofs.Ytngaokhlcdlpfaa
