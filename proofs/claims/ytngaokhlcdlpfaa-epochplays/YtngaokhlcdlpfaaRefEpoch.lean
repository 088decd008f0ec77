/-
  The reference's chapter 9: its epoch over its memory (REpo), its machines' Step, told by the same plain data (En, Ad).
-/
import Derived.Test.YtngaokhlcdlpfaaEpHold2
import Derived.Test.YtngaokhlcdlpfaaRefCells
import Derived.Test.YtngaokhlcdlpfaaRefWord
namespace Go.Proofs.Ytngaokhlcdlpfaa
open Go.RowKit
open W64
set_option maxRecDepth 100000
structure REpo (w : World) (p g q at_ pn n : Nat) (xs : List Int) (c : Int) : Prop where
  ref : Ref w p g xs c
  obj : Whole w q 34 #[.pointer (some ⟨p, 0, none⟩), .int .i64 at_, .int .i64 pn, .int .i64 n]
  ok : ∀ i : Nat, 0 ≤ xs.getD i 0 ∧ xs.getD i 0 < 18446744073709551616
  np : q ≠ p
  ng : q ≠ g
  n0 : 1 ≤ n
  n1 : n ≤ 64
  ha : at_ < xs.length
  hp : pn + n ≤ xs.length
  top : xs.length ≤ 8388608
section
variable {w w' : World} {p g q at_ pn n b wk : Nat} {xs : List Int} {c : Int}
theorem REpo.up (E : REpo w p g q at_ pn n xs c) (u : Up w w') : REpo w' p g q at_ pn n xs c := ⟨E.ref.up u, E.obj.up u, E.ok, E.np, E.ng, E.n0, E.n1, E.ha, E.hp, E.top⟩
theorem REpo.else (E : REpo w p g q at_ pn n xs c) {l : List Nat} (u : Else l w w') (h1 : p ∉ l) (h2 : g ∉ l) (h3 : q ∉ l) : REpo w' p g q at_ pn n xs c :=
  ⟨E.ref.else u h1 h2, u.whole E.obj h3, E.ok, E.np, E.ng, E.n0, E.n1, E.ha, E.hp, E.top⟩
theorem REpo.turn (E : REpo w p g q at_ pn n xs c) {xs' : List Int} {c' : Int} {l : List Nat} (m : Ref w' p g xs' c') (u : Else l w w') (hq : q ∉ l) (ok : ∀ i : Nat, 0 ≤ xs'.getD i 0 ∧ xs'.getD i 0 < 18446744073709551616) (hl : xs'.length = xs.length) : REpo w' p g q at_ pn n xs' c' :=
  ⟨m, u.whole E.obj hq, ok, E.np, E.ng, E.n0, E.n1, hl ▸ E.ha, hl ▸ E.hp, hl ▸ E.top⟩
theorem ok_set {xs : List Int} (ok : ∀ i : Nat, 0 ≤ xs.getD i 0 ∧ xs.getD i 0 < 18446744073709551616) (k : Nat) {v : Int} (h0 : 0 ≤ v) (h1 : v < 18446744073709551616) : ∀ i : Nat, 0 ≤ (xs.set k v).getD i 0 ∧ (xs.set k v).getD i 0 < 18446744073709551616 := by
  intro i
  rw [getD_set]
  split
  · exact ⟨h0, h1⟩
  · exact ok i
theorem REpo.cells (E : REpo w p g q at_ pn n xs c) : w.cell? ⟨q, 0, none⟩ = some (.pointer (some ⟨p, 0, none⟩)) ∧ w.cell? ⟨q, 1, none⟩ = some (.int .i64 at_) ∧ w.cell? ⟨q, 2, none⟩ = some (.int .i64 pn) ∧ w.cell? ⟨q, 3, none⟩ = some (.int .i64 n) :=
  ⟨E.obj.cell rfl, E.obj.cell rfl, E.obj.cell rfl, E.obj.cell rfl⟩
theorem REpo.q2 (E : REpo w p g q at_ pn n xs c) : q ∉ [p, g] := by simp [E.np, E.ng]
theorem REpo.q3 (E : REpo w p g q at_ pn n xs c) (A : Off b p g q) : q ∉ [b, p, g] := not_three A.bq.symm E.np E.ng
theorem Ref.own (M : Ref w p g xs c) (A : Off b p g q) (o : Nat) (u : Value) : Ref (w.setCell ⟨b, o, none⟩ u) p g xs c :=
  M.else (l := [b]) (Else.set (Else.refl [b] w) (p := ⟨b, o, none⟩) (.inl (by simp)) u) A.p1 A.g1
theorem rload_to {k : Nat} {i x : Int} (m : Ref w p g xs c) (hi : i = k) (h : k < xs.length) (hx : xs.getD k 0 = x) :
    Calls Try.prog 49 #[.pointer (some ⟨p, 0, none⟩), .int .i64 i] w fun e w' => e = .returned (.int .u64 x) ∧ Ref w' p g xs (wrap64 (c + 1)) ∧ Else [p, g] w w' := by
  subst hi hx; exact rload_in m h
theorem rstore_to {k : Nat} {i : Int} (v : Int) (m : Ref w p g xs c) (hi : i = k) (h : k < xs.length) :
    Calls Try.prog 51 #[.pointer (some ⟨p, 0, none⟩), .int .i64 i, .int .u64 v] w fun e w' => e = .returned (.tuple #[]) ∧ Ref w' p g (xs.set k v) (wrap64 (c + 1)) ∧ Else [p, g] w w' := by
  subst hi; exact rstore_in v m h
set_option maxHeartbeats 400000 in
theorem cut_any (x : Int) (h0 : 0 ≤ x) (w : World) :
    Calls Try.prog 42 #[.int .u64 x] w fun e w' => e = .returned (.int .i64 (epN x)) ∧ w = w' := by
  by_cases h : x ≤ 4611686018427387903
  · have e : epN x = x := by unfold epN; rw [if_pos h]
    rw [e]
    have e1 : IntKind.i64.wrap x = x := IntWalk.i64_in _ (by omega)
    have h2 : ¬ 4611686018427387903 < x := by omega
    go_enter Try.func42, Try.ntmps42
    go_wp2
    go_ret
    exact ⟨ret_int (by first | rfl | exact e1 | omega), rfl⟩
  · have e : epN x = 4611686018427387903 := by unfold epN; rw [if_neg h]
    rw [e]
    have h2 : 4611686018427387903 < x := by omega
    go_enter Try.func42, Try.ntmps42
    go_wp2
    go_ret
    exact ⟨ret_int (by first | rfl | decide), rfl⟩
theorem cut_to {x y : Int} (e : epN x = y) (h0 : 0 ≤ x) (w : World) :
    Calls Try.prog 42 #[.int .u64 x] w fun e w' => e = .returned (.int .i64 y) ∧ w = w' := e ▸ cut_any x h0 w
theorem rgetPin_to {x y : Int} {d : Bool} (e : pinE x = y) (ec : pinO x = d) (h0 : 0 ≤ x) (h1 : x < 18446744073709551616) (w : World) :
    Calls Try.prog 16 #[.int .u64 x] w fun e w' => e = .returned (.tuple #[.int .i64 y, .bool d]) ∧ w = w' := e ▸ ec ▸ rgetPin_any x w h0 h1
theorem rputPin_to {x y : Int} (e : pinV x = y) (ec : pinB x = true) (w : World) :
    Calls Try.prog 50 #[.int .i64 x] w fun e w' => e = .returned (.tuple #[.int .u64 y, .bool true]) ∧ w = w' := by
  have h := rputPin_any x w
  rw [e, ec] at h; exact h
set_option maxHeartbeats 1000000 in
theorem rnow_any (E : REpo w p g q at_ pn n xs c) {y : Int} (hy : epN (xs.getD at_ 0) = y) :
    Calls Try.prog 19 #[.pointer (some ⟨q, 0, none⟩)] w fun e w' => e = .returned (.int .i64 y) ∧ Up w w' := by
  obtain ⟨c0, c1, _, _⟩ := E.cells
  have m0 := E.ref.cells.1
  have d := E.ref.cell E.ha
  have hk := Lib.hid (E.ok at_)
  have i0 : (0 : Int) ≤ (at_ : Int) := Int.natCast_nonneg _
  have i1 : (at_ : Int) < (xs.length : Int) := by have := E.ha; omega
  obtain ⟨x, hx⟩ : ∃ x, xs.getD at_ 0 = x := ⟨_, rfl⟩
  rw [hx] at hy d hk
  have HY := Lib.hid hy
  clear E hy hx
  go_enter Try.func19, Try.ntmps19
  go_upto_region 1 with fail
  go_quiet ((go_at_call 42; exact quiet_eq (cut_to HY.out hk.out.1 _)))
  go_wp2_with fail
  go_ret
  exact ⟨rfl, Up.drewN _ _⟩
/-! ### The machines -/
abbrev renRow (q wk i : Nat) (ep : Int) (d : Bool) : Array Value := #[.pointer (some ⟨q, 0, none⟩), .int .i64 wk, .int .i64 i, .int .i64 ep, .bool d]
abbrev rleRow (q wk : Nat) (d : Bool) : Array Value := #[.pointer (some ⟨q, 0, none⟩), .int .i64 wk, .bool d]
abbrev radRow (q i : Nat) (old : Int) (won fin : Bool) : Array Value := #[.pointer (some ⟨q, 0, none⟩), .int .i64 i, .int .u64 old, .bool won, .bool fin]
set_option maxHeartbeats 2000000 in
theorem renter_load (E : REpo w p g q at_ pn n xs c) (A : Off b p g q) {ep : Int} (P : Whole w b 84 (renRow q wk 0 ep false)) {y : Int} (hy : epN (xs.getD at_ 0) = y) :
    Calls Try.prog 33 #[.pointer (some ⟨b, 0, none⟩)] w fun e w' => e = .returned (.bool true) ∧ Whole w' b 84 (renRow q wk 1 y false) ∧ Ref w' p g xs (wrap64 (c + 1)) ∧ Else [b, p, g] w w' := by
  have c0 := P.cell (i := 0) rfl
  have c2 := P.cell (i := 2) rfl
  have c3 := P.cell (i := 3) rfl
  have c4 := P.cell (i := 4) rfl
  obtain ⟨k0, k1, _, _⟩ := E.cells
  have hq := E.q2
  have hb := A.b2
  have hbq := A.bq
  have f3 := P.frozen 3
  have hk := Lib.hid (E.ok at_)
  have HL := Lib.hid (rload_in (E.ref.up (up_drew w)) E.ha)
  obtain ⟨x, hx⟩ : ∃ x, xs.getD at_ 0 = x := ⟨_, rfl⟩
  rw [hx] at hy hk HL
  have HY := Lib.hid hy
  have HP := Lib.hid P
  have HA := Lib.hid A
  clear P E A hy hx
  go_enter Try.func33, Try.ntmps33
  go_upto_region 4 with fail
  go_region_held3 (fun w' => w'.cell? ⟨b, 0, none⟩ = some (.pointer (some ⟨q, 0, none⟩)) ∧ w'.cell? ⟨q, 0, none⟩ = some (.pointer (some ⟨p, 0, none⟩)) ∧ w'.cell? ⟨q, 1, none⟩ = some (.int .i64 at_)) ((first | exact ⟨c0, k0, k1⟩ | exact ⟨E1.kept c0 hb, E1.kept k0 hq, E1.kept k1 hq⟩ | exact ⟨kept_set (off_ne (by decide)) (E1.kept c0 hb), kept_set (ad_ne hbq) (E1.kept k0 hq), kept_set (ad_ne hbq) (E1.kept k1 hq)⟩))
    (first
      | (go_at_call 42; refine (cut_to HY.out hk.out.1 _).mono ?_; rintro e w5 ⟨rfl, rfl⟩)
      | (go_at_call 49; refine HL.out.mono ?_; rintro e w1 ⟨rfl, M1, E1⟩; have d3 := E1.kept (p := ⟨b, 3, none⟩) c3 hb; have g3 := (((Else.of_up (up_drew w)).trans E1).whole HP.out hb).frozen 3))
  have E2 := Lib.hid ((Else.of_up (up_drew w)).trans E1)
  have P2 := Lib.hid ((E2.out.whole HP.out hb).set 3 (.int .i64 y))
  have j2 := P2.out.cell (i := 2) rfl
  have f2 := P2.out.frozen 2
  clear d3 g3
  go_wp2_with fail
  go_ret
  exact ⟨rfl, P2.out.set 2 _, (M1.own HA.out 3 _).own HA.out 2 _, else_self (else_self (E2.out.wide b) (by simp)) (by simp)⟩
set_option maxHeartbeats 2000000 in
theorem renter_store (E : REpo w p g q at_ pn n xs c) (A : Off b p g q) {ep : Int} (hw : wk < n) (P : Whole w b 84 (renRow q wk 1 ep false)) {y : Int} (hB : pinB ep = true) (hy : pinV ep = y) :
    Calls Try.prog 33 #[.pointer (some ⟨b, 0, none⟩)] w fun e w' => e = .returned (.bool true) ∧ Whole w' b 84 (renRow q wk 1 ep true) ∧ Ref w' p g (xs.set (pn + wk) y) (wrap64 (c + 1)) ∧ Else [b, p, g] w w' := by
  have c0 := P.cell (i := 0) rfl
  have c1 := P.cell (i := 1) rfl
  have c2 := P.cell (i := 2) rfl
  have c3 := P.cell (i := 3) rfl
  have c4 := P.cell (i := 4) rfl
  obtain ⟨k0, _, k2, _⟩ := E.cells
  have hq := E.q2
  have hb := A.b2
  have ht := E.top
  have hp := E.hp
  have s1 : wrap64 ((pn : Int) + wk) = pn + wk := wrap64_in (by omega) (by omega)
  have s2 : IntKind.i64.wrap ((pn : Int) + wk) = pn + wk := IntWalk.i64_in _ (by omega)
  have hi := Lib.hid (show (pn : Int) + wk = ((pn + wk : Nat) : Int) by omega)
  have hl := Lib.hid (show pn + wk < xs.length by omega)
  have HY := Lib.hid hy
  have HB := Lib.hid hB
  have HM := Lib.hid E.ref
  have HP := Lib.hid P
  have HA := Lib.hid A
  clear P E A hy hB
  go_enter Try.func33, Try.ntmps33
  go_upto_region 8 with (go_at_call 50; refine (rputPin_to HY.out HB.out _).mono ?_; rintro e w2 ⟨rfl, rfl⟩)
  go_region_held3 (fun w' => w'.cell? ⟨b, 0, none⟩ = some (.pointer (some ⟨q, 0, none⟩)) ∧ w'.cell? ⟨b, 1, none⟩ = some (.int .i64 wk) ∧ w'.cell? ⟨q, 0, none⟩ = some (.pointer (some ⟨p, 0, none⟩)) ∧ w'.cell? ⟨q, 2, none⟩ = some (.int .i64 pn)) ((first | exact ⟨c0, c1, k0, k2⟩ | exact ⟨E1.kept c0 hb, E1.kept c1 hb, E1.kept k0 hq, E1.kept k2 hq⟩))
    (first
      | (go_at_call 51; refine (rstore_to _ (HM.out.up (up_drew w)) hi.out hl.out).mono ?_; rintro e w1 ⟨rfl, M1, E1⟩))
  have E2 := Lib.hid ((Else.of_up (up_drew w)).trans E1)
  have P1 := Lib.hid (E2.out.whole HP.out hb)
  have M2 := Lib.hid M1
  have j4 := P1.out.cell (i := 4) rfl
  have f4 := P1.out.frozen 4
  clear M1 E1
  go_wp2_with fail
  go_ret
  exact ⟨rfl, P1.out.set 4 _, M2.out.own HA.out 4 _, else_self (E2.out.wide b) (by simp)⟩
set_option maxHeartbeats 2000000 in
theorem rleave_store (E : REpo w p g q at_ pn n xs c) (A : Off b p g q) (hw : wk < n) (P : Whole w b 100 (rleRow q wk false)) :
    Calls Try.prog 35 #[.pointer (some ⟨b, 0, none⟩)] w fun e w' => e = .returned (.bool true) ∧ Whole w' b 100 (rleRow q wk true) ∧ Ref w' p g (xs.set (pn + wk) 0) (wrap64 (c + 1)) ∧ Else [b, p, g] w w' := by
  have c0 := P.cell (i := 0) rfl
  have c1 := P.cell (i := 1) rfl
  have c2 := P.cell (i := 2) rfl
  obtain ⟨k0, _, k2, _⟩ := E.cells
  have hq := E.q2
  have hb := A.b2
  have ht := E.top
  have hp := E.hp
  have s1 : wrap64 ((pn : Int) + wk) = pn + wk := wrap64_in (by omega) (by omega)
  have s2 : IntKind.i64.wrap ((pn : Int) + wk) = pn + wk := IntWalk.i64_in _ (by omega)
  have hi := Lib.hid (show (pn : Int) + wk = ((pn + wk : Nat) : Int) by omega)
  have hl := Lib.hid (show pn + wk < xs.length by omega)
  have HM := Lib.hid E.ref
  have HP := Lib.hid P
  have HA := Lib.hid A
  clear P E A
  go_enter Try.func35, Try.ntmps35
  go_upto_region 3 with fail
  go_region_held3 (fun w' => w'.cell? ⟨b, 0, none⟩ = some (.pointer (some ⟨q, 0, none⟩)) ∧ w'.cell? ⟨b, 1, none⟩ = some (.int .i64 wk) ∧ w'.cell? ⟨q, 0, none⟩ = some (.pointer (some ⟨p, 0, none⟩)) ∧ w'.cell? ⟨q, 2, none⟩ = some (.int .i64 pn)) ((first | exact ⟨c0, c1, k0, k2⟩ | exact ⟨E1.kept c0 hb, E1.kept c1 hb, E1.kept k0 hq, E1.kept k2 hq⟩))
    (first
      | (go_at_call 51; refine (rstore_to _ (HM.out.up (up_drew w)) hi.out hl.out).mono ?_; rintro e w1 ⟨rfl, M1, E1⟩))
  have E2 := Lib.hid ((Else.of_up (up_drew w)).trans E1)
  have P1 := Lib.hid (E2.out.whole HP.out hb)
  have M2 := Lib.hid M1
  have j2 := P1.out.cell (i := 2) rfl
  have f2 := P1.out.frozen 2
  clear M1 E1
  go_wp2_with fail
  go_ret
  exact ⟨rfl, P1.out.set 2 _, M2.out.own HA.out 2 _, else_self (E2.out.wide b) (by simp)⟩
end
end Go.Proofs.Ytngaokhlcdlpfaa
