/-
  Texts beneath RootsPlay, part 14: RefPush, RefPop.
-/
import Derived.Test.YtalglhgngedjoaaGreatPart13
import Derived.BigQuiet
import Derived.Deep.RegionLaw
/-
  The reference's stack: one Step of a Push, way by way.
-/
namespace Go.Proofs.YtalglhgngedjoaaGreat
open Go.RowKit
open W64
set_option maxRecDepth 100000
section
variable {w w' : World} {p g q hd ln n b i : Nat} {xs : List Int} {c : Int} {v : Value} {l : List Nat} {old : Int}
theorem rload_to {a x : Int} {k : Nat} (ha : a = (k : Int)) (m : Ref w p g xs c) (h : k < xs.length) (hx : xs.getD k 0 = x) :
    Calls Tryz.prog 80 #[.pointer (some ⟨p, 0, none⟩), .int .i64 a] w fun e w' => e = .returned (.int .u64 x) ∧ Ref w' p g xs (wrap64 (c + 1)) ∧ Else [p, g] w w' := by subst ha hx; exact rload_in m h
theorem rstore_to {a : Int} {k : Nat} (v : Int) (ha : a = (k : Int)) (m : Ref w p g xs c) (h : k < xs.length) :
    Calls Tryz.prog 84 #[.pointer (some ⟨p, 0, none⟩), .int .i64 a, .int .u64 v] w fun e w' => e = .returned (.tuple #[]) ∧ Ref w' p g (xs.set k v) (wrap64 (c + 1)) ∧ Else [p, g] w w' := by subst ha; exact rstore_in v m h
theorem RPushAt.count {d : Bool} (P : RPushAt w b q v l i old d) {a : Int} {j : Nat} (h : a = (j : Int)) : RPushAt (w.setCell ⟨b, 2, none⟩ (.int .i64 a)) b q v l j old d := by subst h; exact ⟨P.top.set 2 _, row_self P.row P.away _, P.away⟩
theorem RPushAt.seen {d : Bool} (P : RPushAt w b q v l i old d) (o : Int) : RPushAt (w.setCell ⟨b, 3, none⟩ (.int .u64 o)) b q v l i o d := ⟨P.top.set 3 _, row_self P.row P.away _, P.away⟩
theorem RPushAt.fin {d : Bool} (P : RPushAt w b q v l i old d) (e : Bool) : RPushAt (w.setCell ⟨b, 4, none⟩ (.bool e)) b q v l i old e := ⟨P.top.set 4 _, row_self P.row P.away _, P.away⟩
theorem Ref.self (M : Ref w p g xs c) (h1 : b ≠ p) (h2 : b ≠ g) (i : Nat) (u : Value) : Ref (w.setCell ⟨b, i, none⟩ u) p g xs c :=
  M.else (l := [b]) ((Else.refl [b] w).set (p := ⟨b, i, none⟩) (.inl (by simp)) u) (by simp [h1.symm]) (by simp [h2.symm])
theorem wrapS {a b : Nat} (h : a + b ≤ 8400000) : IntKind.i64.wrap ((a : Int) + b) = a + b ∧ wrap64 ((a : Int) + b) = a + b := ⟨IntWalk.i64_in _ (by omega), wrap64_in (by omega) (by omega)⟩
set_option maxHeartbeats 4000000 in
theorem rpush_link (E : REnv w p g q hd ln n xs c) (P : RPushAt w b q v l i old false) (A : Apart b p g q v) (hl0 : l ≠ []) (hn : ∀ x ∈ l, x < n) (hl : l.length ≤ 8192) (hi : i + 1 < l.length) :
    Calls Tryz.prog 47 #[.pointer (some ⟨b, 0, none⟩)] w fun e w' => e = .returned (.bool true) ∧ RPushAt w' b q v l (i + 1) old false ∧ Ref w' p g (xs.set (ln + l.getD i 0) ((l.getD (i + 1) 0 : Nat) + 1)) (wrap64 (c + 1)) ∧ Else [b, p, g] w w' := by
  obtain ⟨r, cap, rfl, ds⟩ := P.row.get hl0
  have lp := List.length_pos_iff.2 hl0
  have d0 := ds i (by omega)
  have d1 := ds (i + 1) (by omega)
  have m0 := hn _ (Stk.getD_mem (show i < l.length by omega))
  have m1 := hn _ (Stk.getD_mem (show i + 1 < l.length by omega))
  generalize l.getD i 0 = x at *
  generalize l.getD (i + 1) 0 = y at *
  clear ds
  have n1 := E.n1
  have hlx := E.hl
  have hhx := E.hh
  have htx := E.top
  obtain ⟨K, hK⟩ : ∃ K : Nat, K = l.length := ⟨_, rfl⟩
  have HKL := Lib.hid hK
  rw [← hK] at hi lp hl
  have i0 : (0 : Int) ≤ (i : Int) := Int.natCast_nonneg _
  have i1 : (i : Int) < (K : Int) := by omega
  have i2 : (i : Int) + 1 < (K : Int) := by omega
  have i3 : (0 : Int) ≤ (i : Int) + 1 := by omega
  have i4 : (i : Int) < (K : Int) - 1 := by omega
  have HLT := Lib.hid (show ln + x < xs.length by omega)
  have HAD := Lib.hid (show (ln : Int) + (x : Int) = ((ln + x : Nat) : Int) by omega)
  have HCT := Lib.hid (show (i : Int) + 1 = ((i + 1 : Nat) : Int) by omega)
  have s9 : (-9223372036854775808 ≤ (i : Int) + 1 ∧ (i : Int) + 1 ≤ 9223372036854775807) ∧ (-9223372036854775808 ≤ (y : Int) + 1 ∧ (y : Int) + 1 ≤ 9223372036854775807) ∧ (0 ≤ (y : Int) + 1 ∧ (y : Int) + 1 ≤ 18446744073709551615) ∧ ln + x ≤ 8400000 ∧ (-9223372036854775808 ≤ (K : Int) - 1 ∧ (K : Int) - 1 ≤ 9223372036854775807) ∧ (K : Int) - 1 < 9223372036854775808 := by omega
  obtain ⟨z1, z2, z3, z4, z5, z6⟩ := s9
  have s2 := IntWalk.i64_in ((i : Int) + 1) z1
  obtain ⟨s3, s4⟩ := wrapS (a := ln) (b := x) z4
  have s5 := IntWalk.i64_in ((y : Int) + 1) z2
  have s6 := IntWalk.u64_in ((y : Int) + 1) z3
  have sK := IntWalk.i64_in ((K : Int) - 1) z5
  have sK2 := wrap64_in z5.1 z6
  clear z1 z2 z3 z4 z5 z6
  have hb := A.b2
  have hbq := A.bq
  have hq : q ∉ [p, g] := by simp [E.np, E.ng]
  have hr : r ∉ [p, g] := fun hk => A.v2 r hk rfl
  obtain ⟨c0, c1, c2, c3, c4⟩ := P.cells
  rw [← hK] at c1
  have HP := Lib.hid P
  have HE := Lib.hid E
  have HA := Lib.hid A
  clear P E A hK hn hl0
  go_enter Tryz.func47, Tryz.ntmps47
  go_upto_region 3 with fail
  go_quiet (fail)
  replace HP := Lib.hid (HP.out.up (Up.drewN w nq))
  replace HE := Lib.hid (HE.out.up (Up.drewN w nq))
  have HU0 := Lib.hid (Up.drewN w nq)
  clear c0 c1 c2 c3 c4
  go_upto_region 6 with fail
  generalize w.drewN nq = w0 at *
  obtain ⟨c0, c1, c2, c3, c4⟩ := HP.out.cells
  rw [← HKL.out] at c1
  obtain ⟨k0, k1, k2, k3⟩ := HE.out.cells
  replace d0 := HU0.out.kept d0
  replace d1 := HU0.out.kept d1
  go_upto_region 7 with fail
  go_region_held3 (fun w' => w'.cell? ⟨b, 1, none⟩ = some (.slice (some ⟨r, 0, none⟩) K cap) ∧ w'.cell? ⟨b, 2, none⟩ = some (.int .i64 i) ∧ w'.cell? ⟨r, i, none⟩ = some (.int .i64 x) ∧ w'.cell? ⟨r, i + 1, none⟩ = some (.int .i64 y) ∧ w'.cell? ⟨q, 0, none⟩ = some (.pointer (some ⟨p, 0, none⟩)) ∧ w'.cell? ⟨q, 2, none⟩ = some (.int .i64 ln)) ((first | exact ⟨c1, c2, d0, d1, k0, k2⟩ | exact ⟨E1.kept c1 hb, E1.kept c2 hb, E1.kept d0 hr, E1.kept d1 hr, E1.kept k0 hq, E1.kept k2 hq⟩))
    (first
      | (go_at_call 84; refine (rstore_to (k := ln + x) _ HAD.out (HE.out.mem.up (up_drew w0)) HLT.out).mono ?_; rintro e w1 ⟨rfl, M1, E1⟩))
  have E2 := Lib.hid ((Else.of_up (HU0.out.trans (up_drew w0))).trans E1)
  have P1 := Lib.hid ((HP.out.up (up_drew w0)).else E1 HA.out.b2 HA.out.v2)
  have M2 := Lib.hid M1
  have j2 := P1.out.cells.2.2.1
  have f2 := P1.out.top.frozen 2
  clear M1 E1 c0 c1 c2 c3 c4 d0 d1 k0 k1 k2 k3
  go_wp2_with fail
  go_ret
  refine ⟨rfl, P1.out.count HCT.out, M2.out.self HA.out.bp HA.out.bg _ _, else_self (E2.out.wide b) (by simp)⟩
set_option maxHeartbeats 4000000 in
theorem rpush_load (E : REnv w p g q hd ln n xs c) (P : RPushAt w b q v l i old false) (A : Apart b p g q v) (hl0 : l ≠ []) (_hn : ∀ x ∈ l, x < n) (hl : l.length ≤ 8192) (hi : i + 1 = l.length) :
    Calls Tryz.prog 47 #[.pointer (some ⟨b, 0, none⟩)] w fun e w' => e = .returned (.bool true) ∧ RPushAt w' b q v l (i + 1) (xs.getD hd 0) false ∧ Ref w' p g xs (wrap64 (c + 1)) ∧ Else [b, p, g] w w' := by
  obtain ⟨r, cap, rfl, ds⟩ := P.row.get hl0
  have lp := List.length_pos_iff.2 hl0
  obtain ⟨x, hx⟩ : ∃ x, xs.getD hd 0 = x := ⟨_, rfl⟩
  rw [hx]
  have HX := Lib.hid hx
  clear ds
  have n1 := E.n1
  have hlx := E.hl
  have hhx := E.hh
  have htx := E.top
  obtain ⟨K, hK⟩ : ∃ K : Nat, K = l.length := ⟨_, rfl⟩
  have HKL := Lib.hid hK
  rw [← hK] at hi lp hl
  have i0 : (0 : Int) ≤ (i : Int) := Int.natCast_nonneg _
  have i4 : ¬ (i : Int) < (K : Int) - 1 := by omega
  have i5 : (i : Int) = (K : Int) - 1 := by omega
  have HCT := Lib.hid (show (i : Int) + 1 = ((i + 1 : Nat) : Int) by omega)
  have s9 : (-9223372036854775808 ≤ (i : Int) + 1 ∧ (i : Int) + 1 ≤ 9223372036854775807) ∧ (-9223372036854775808 ≤ (K : Int) - 1 ∧ (K : Int) - 1 ≤ 9223372036854775807) ∧ (K : Int) - 1 < 9223372036854775808 := by omega
  obtain ⟨z1, z5, z6⟩ := s9
  have s2 := IntWalk.i64_in ((i : Int) + 1) z1
  have sK := IntWalk.i64_in ((K : Int) - 1) z5
  have sK2 := wrap64_in z5.1 z6
  rw [← i5] at sK sK2 i4
  clear z1 z5 z6 i5
  have hb := A.b2
  have hbq := A.bq
  have hq : q ∉ [p, g] := by simp [E.np, E.ng]
  have hr : r ∉ [p, g] := fun hk => A.v2 r hk rfl
  obtain ⟨c0, c1, c2, c3, c4⟩ := P.cells
  rw [← hK] at c1
  have HP := Lib.hid P
  have HE := Lib.hid E
  have HA := Lib.hid A
  clear P E A hK hl0 hx
  go_enter Tryz.func47, Tryz.ntmps47
  go_upto_region 3 with fail
  go_quiet (fail)
  replace HP := Lib.hid (HP.out.up (Up.drewN w nq))
  replace HE := Lib.hid (HE.out.up (Up.drewN w nq))
  have HU0 := Lib.hid (Up.drewN w nq)
  clear c0 c1 c2 c3 c4
  go_upto_region 6 with fail
  generalize w.drewN nq = w0 at *
  obtain ⟨c0, c1, c2, c3, c4⟩ := HP.out.cells
  rw [← HKL.out] at c1
  obtain ⟨k0, k1, k2, k3⟩ := HE.out.cells
  go_upto_region 10 with fail
  go_region_held3 (fun w' => w'.cell? ⟨q, 0, none⟩ = some (.pointer (some ⟨p, 0, none⟩)) ∧ w'.cell? ⟨q, 1, none⟩ = some (.int .i64 hd)) ((first | exact ⟨k0, k1⟩ | exact ⟨E1.kept k0 hq, E1.kept k1 hq⟩ | exact ⟨kept_set (ad_ne hbq) (E1.kept k0 hq), kept_set (ad_ne hbq) (E1.kept k1 hq)⟩))
    (first
      | (go_at_call 80; refine (rload_to (k := hd) rfl (HE.out.mem.up (up_drew w0)) hhx HX.out).mono ?_; rintro e w1 ⟨rfl, M1, E1⟩; have d3 := E1.kept (p := ⟨b, 3, none⟩) c3 hb; have g3 := ((HP.out.up (up_drew w0)).else E1 HA.out.b2 HA.out.v2).top.frozen 3))
  have E2 := Lib.hid ((Else.of_up (HU0.out.trans (up_drew w0))).trans E1)
  have P1 := Lib.hid (((HP.out.up (up_drew w0)).else E1 HA.out.b2 HA.out.v2).seen x)
  have M2 := Lib.hid (M1.self HA.out.bp HA.out.bg 3 (.int .u64 x))
  have j2 := P1.out.cells.2.2.1
  have f2 := P1.out.top.frozen 2
  clear M1 E1 c0 c1 c2 c3 c4 k0 k1 k2 k3 d3 g3
  go_wp2_with fail
  go_ret
  refine ⟨rfl, P1.out.count HCT.out, M2.out.self HA.out.bp HA.out.bg _ _, else_self (else_self (E2.out.wide b) (by simp)) (by simp)⟩
set_option maxHeartbeats 4000000 in
theorem rpush_last (E : REnv w p g q hd ln n xs c) (P : RPushAt w b q v l i old false) (A : Apart b p g q v) (hl0 : l ≠ []) (hn : ∀ x ∈ l, x < n) (hl : l.length ≤ 8192) (hi : i = l.length) (h0 : 0 ≤ old) (h1 : old < 18446744073709551616) :
    Calls Tryz.prog 47 #[.pointer (some ⟨b, 0, none⟩)] w fun e w' => e = .returned (.bool true) ∧ RPushAt w' b q v l (i + 1) old false ∧ Ref w' p g (xs.set (ln + l.getD (l.length - 1) 0) (topN n old + 1)) (wrap64 (c + 1)) ∧ Else [b, p, g] w w' := by
  obtain ⟨r, cap, rfl, ds⟩ := P.row.get hl0
  have lp := List.length_pos_iff.2 hl0
  have d0 := ds (l.length - 1) (by omega)
  have m0 := hn _ (Stk.getD_mem (show l.length - 1 < l.length by omega))
  generalize l.getD (l.length - 1) 0 = x at *
  obtain ⟨t0, t1⟩ := topN_in h0 E.n0
  obtain ⟨y, hy⟩ : ∃ y, topN n old = y := ⟨_, rfl⟩
  rw [hy] at t0 t1 ⊢
  have HY := Lib.hid hy
  clear ds
  have n1 := E.n1
  have hlx := E.hl
  have hhx := E.hh
  have htx := E.top
  obtain ⟨K, hK⟩ : ∃ K : Nat, K = l.length := ⟨_, rfl⟩
  have HKL := Lib.hid hK
  rw [← hK] at hi lp hl d0
  have i0 : (0 : Int) ≤ (i : Int) := Int.natCast_nonneg _
  obtain ⟨k, hk⟩ : ∃ k, K - 1 = k := ⟨_, rfl⟩
  rw [hk] at d0
  have e9 : (K : Int) - 1 = (k : Int) := by omega
  have i1 : (k : Int) < (K : Int) := by omega
  have i2 : (0 : Int) ≤ (k : Int) := Int.natCast_nonneg _
  subst hi
  have i4 : ¬ (i : Int) < (k : Int) := by omega
  have i5 : ¬ ((i : Int) = (k : Int)) := by omega
  have HLT := Lib.hid (show ln + x < xs.length by omega)
  have HAD := Lib.hid (show (ln : Int) + (x : Int) = ((ln + x : Nat) : Int) by omega)
  have HCT := Lib.hid (show (i : Int) + 1 = ((i + 1 : Nat) : Int) by omega)
  have s9 : (-9223372036854775808 ≤ (i : Int) + 1 ∧ (i : Int) + 1 ≤ 9223372036854775807) ∧ (-9223372036854775808 ≤ y + 1 ∧ y + 1 ≤ 9223372036854775807) ∧ (0 ≤ y + 1 ∧ y + 1 ≤ 18446744073709551615) ∧ ln + x ≤ 8400000 ∧ (-9223372036854775808 ≤ (i : Int) - 1 ∧ (i : Int) - 1 ≤ 9223372036854775807) ∧ (i : Int) - 1 < 9223372036854775808 := by omega
  obtain ⟨z1, z2, z3, z4, z5, z6⟩ := s9
  have s2 := IntWalk.i64_in ((i : Int) + 1) z1
  obtain ⟨s3, s4⟩ := wrapS (a := ln) (b := x) z4
  have s5 := IntWalk.i64_in (y + 1) z2
  have s6 := IntWalk.u64_in (y + 1) z3
  have sK := (IntWalk.i64_in ((i : Int) - 1) z5).trans e9
  have sK2 := (wrap64_in z5.1 z6).trans e9
  clear z1 z2 z3 z4 z5 z6 e9 hk hl lp
  have hb := A.b2
  have hbq := A.bq
  have hq : q ∉ [p, g] := by simp [E.np, E.ng]
  have hr : r ∉ [p, g] := fun hk => A.v2 r hk rfl
  obtain ⟨c0, c1, c2, c3, c4⟩ := P.cells
  rw [← hK] at c1
  have HP := Lib.hid P
  have HE := Lib.hid E
  have HA := Lib.hid A
  clear P E A hK hn hl0 hy
  go_enter Tryz.func47, Tryz.ntmps47
  go_upto_region 3 with fail
  go_quiet (fail)
  replace HP := Lib.hid (HP.out.up (Up.drewN w nq))
  replace HE := Lib.hid (HE.out.up (Up.drewN w nq))
  have HU0 := Lib.hid (Up.drewN w nq)
  clear c0 c1 c2 c3 c4
  go_upto_region 6 with fail
  generalize w.drewN nq = w0 at *
  obtain ⟨c0, c1, c2, c3, c4⟩ := HP.out.cells
  rw [← HKL.out] at c1
  obtain ⟨k0, k1, k2, k3⟩ := HE.out.cells
  replace d0 := HU0.out.kept d0
  go_upto_region 13 with fail
  go_region_held3 (fun w' => w'.cell? ⟨b, 1, none⟩ = some (.slice (some ⟨r, 0, none⟩) i cap) ∧ w'.cell? ⟨b, 3, none⟩ = some (.int .u64 old) ∧ w'.cell? ⟨r, k, none⟩ = some (.int .i64 x) ∧ w'.cell? ⟨q, 0, none⟩ = some (.pointer (some ⟨p, 0, none⟩)) ∧ w'.cell? ⟨q, 2, none⟩ = some (.int .i64 ln)) ((first | exact ⟨c1, c3, d0, k0, k2⟩ | exact ⟨U1.kept c1, U1.kept c3, U1.kept d0, U1.kept k0, U1.kept k2⟩ | exact ⟨E2.kept (U1.kept c1) hb, E2.kept (U1.kept c3) hb, E2.kept (U1.kept d0) hr, E2.kept (U1.kept k0) hq, E2.kept (U1.kept k2) hq⟩))
    (first
      | (go_at_call 53; refine (rtop_to (HE.out.up (up_drew w0)) h0 h1 HY.out).mono ?_; rintro e w1 ⟨rfl, U1⟩)
      | (go_at_call 84; refine (rstore_to (k := ln + x) _ HAD.out ((HE.out.mem.up (up_drew w0)).up U1) HLT.out).mono ?_; rintro e w2 ⟨rfl, M1, E2⟩))
  have E3 := Lib.hid ((Else.of_up ((HU0.out.trans (up_drew w0)).trans U1)).trans E2)
  have P1 := Lib.hid ((HP.out.up ((up_drew w0).trans U1)).else E2 HA.out.b2 HA.out.v2)
  have M2 := Lib.hid M1
  have j2 := P1.out.cells.2.2.1
  have f2 := P1.out.top.frozen 2
  clear M1 E2 U1 c0 c1 c2 c3 c4 d0 k0 k1 k2 k3
  go_wp2_with fail
  go_ret
  refine ⟨rfl, P1.out.count HCT.out, M2.out.self HA.out.bp HA.out.bg _ _, else_self (E3.out.wide b) (by simp)⟩
set_option maxHeartbeats 4000000 in
theorem rpush_yes (E : REnv w p g q hd ln n xs c) (P : RPushAt w b q v l i old false) (A : Apart b p g q v) (hl0 : l ≠ []) (hn : ∀ x ∈ l, x < n) (hl : l.length ≤ 8192) (hi : i = l.length + 1) (h0 : 0 ≤ old) (h1 : old < 18446744073709551616) (hc : xs.getD hd 0 = old) :
    Calls Tryz.prog 47 #[.pointer (some ⟨b, 0, none⟩)] w fun e w' => e = .returned (.bool true) ∧ RPushAt w' b q v l (l.length - 1) old true ∧ Ref w' p g (xs.set hd (nextW old (l.getD 0 0 : Nat))) (wrap64 (c + 1)) ∧ Else [b, p, g] w w' := by
  obtain ⟨r, cap, rfl, ds⟩ := P.row.get hl0
  have lp := List.length_pos_iff.2 hl0
  have d0 := ds 0 lp
  have m0 := hn _ (Stk.getD_mem lp)
  generalize l.getD 0 0 = x at *
  have HC := Lib.hid hc
  clear ds
  have n1 := E.n1
  have hlx := E.hl
  have hhx := E.hh
  have htx := E.top
  obtain ⟨K, hK⟩ : ∃ K : Nat, K = l.length := ⟨_, rfl⟩
  have HKL := Lib.hid hK
  rw [← hK] at hi lp hl
  have i0 : (0 : Int) ≤ (i : Int) := Int.natCast_nonneg _
  obtain ⟨k, hk⟩ : ∃ k, K - 1 = k := ⟨_, rfl⟩
  have e9 : (K : Int) - 1 = (k : Int) := by omega
  have i1 : (0 : Int) < (K : Int) := by omega
  have i4 : ¬ (i : Int) < (k : Int) := by omega
  have i5 : ¬ ((i : Int) = (k : Int)) := by omega
  have i6 : ¬ ((i : Int) = (K : Int)) := by omega
  have HK9 := Lib.hid (show (k : Int) = ((l.length - 1 : Nat) : Int) by have := HKL.out; omega)
  have HX0 := Lib.hid (show -1 ≤ (x : Int) ∧ (x : Int) ≤ 4096 by omega)
  have s9 : (-9223372036854775808 ≤ (K : Int) - 1 ∧ (K : Int) - 1 ≤ 9223372036854775807) ∧ (K : Int) - 1 < 9223372036854775808 := by omega
  obtain ⟨z5, z6⟩ := s9
  have sK := (IntWalk.i64_in ((K : Int) - 1) z5).trans e9
  have sK2 := (wrap64_in z5.1 z6).trans e9
  clear z5 z6 e9 hk hl hi
  have hb := A.b2
  have hbq := A.bq
  have hq : q ∉ [p, g] := by simp [E.np, E.ng]
  have hr : r ∉ [p, g] := fun hk => A.v2 r hk rfl
  obtain ⟨c0, c1, c2, c3, c4⟩ := P.cells
  rw [← hK] at c1
  have hbr : b ≠ r := fun e => P.away (by rw [e]; rfl)
  have HP := Lib.hid P
  have HE := Lib.hid E
  have HA := Lib.hid A
  clear P E A hK hn hl0 hc
  go_enter Tryz.func47, Tryz.ntmps47
  go_upto_region 3 with fail
  go_quiet (fail)
  replace HP := Lib.hid (HP.out.up (Up.drewN w nq))
  replace HE := Lib.hid (HE.out.up (Up.drewN w nq))
  have HU0 := Lib.hid (Up.drewN w nq)
  clear c0 c1 c2 c3 c4
  go_upto_region 6 with fail
  generalize w.drewN nq = w0 at *
  obtain ⟨c0, c1, c2, c3, c4⟩ := HP.out.cells
  rw [← HKL.out] at c1
  obtain ⟨k0, k1, k2, k3⟩ := HE.out.cells
  replace d0 := HU0.out.kept d0
  go_upto_region 4 with fail
  go_region_held3 (fun w' => w'.cell? ⟨b, 1, none⟩ = some (.slice (some ⟨r, 0, none⟩) K cap) ∧ w'.cell? ⟨b, 3, none⟩ = some (.int .u64 old) ∧ w'.cell? ⟨r, 0, none⟩ = some (.int .i64 x) ∧ w'.cell? ⟨q, 0, none⟩ = some (.pointer (some ⟨p, 0, none⟩)) ∧ w'.cell? ⟨q, 1, none⟩ = some (.int .i64 hd)) ((first | exact ⟨c1, c3, d0, k0, k1⟩ | exact ⟨U1.kept c1, U1.kept c3, U1.kept d0, U1.kept k0, U1.kept k1⟩ | exact ⟨E2.kept (U1.kept c1) hb, E2.kept (U1.kept c3) hb, E2.kept (U1.kept d0) hr, E2.kept (U1.kept k0) hq, E2.kept (U1.kept k1) hq⟩ | exact ⟨kept_set (off_ne (by decide)) (E2.kept (U1.kept c1) hb), kept_set (off_ne (by decide)) (E2.kept (U1.kept c3) hb), kept_set (ad_ne hbr) (E2.kept (U1.kept d0) hr), kept_set (ad_ne hbq) (E2.kept (U1.kept k0) hq), kept_set (ad_ne hbq) (E2.kept (U1.kept k1) hq)⟩))
    (first
      | (go_at_call 88; refine (rnext_in h0 h1 HX0.out.1 HX0.out.2 _).mono ?_; rintro e w1 ⟨rfl, U1⟩)
      | (go_at_call 86; refine (rcas_yes _ ((HE.out.mem.up (up_drew w0)).up U1) hhx HC.out).mono ?_; rintro e w2 ⟨rfl, M1, E2⟩; have d4 := E2.kept (p := ⟨b, 4, none⟩) (U1.kept c4) hb; have g4 := ((HP.out.up ((up_drew w0).trans U1)).else E2 HA.out.b2 HA.out.v2).top.frozen 4))
  have E3 := Lib.hid ((Else.of_up ((HU0.out.trans (up_drew w0)).trans U1)).trans E2)
  have P1 := Lib.hid (((HP.out.up ((up_drew w0).trans U1)).else E2 HA.out.b2 HA.out.v2).fin true)
  have M2 := Lib.hid (M1.self HA.out.bp HA.out.bg 4 (.bool true))
  have j2 := P1.out.cells.2.2.1
  have f2 := P1.out.top.frozen 2
  clear M1 E2 U1 c0 c1 c2 c3 c4 d0 k0 k1 k2 k3 d4 g4
  go_wp2_with fail
  go_ret
  refine ⟨rfl, P1.out.count HK9.out, M2.out.self HA.out.bp HA.out.bg _ _, else_self (else_self (E3.out.wide b) (by simp)) (by simp)⟩
set_option maxHeartbeats 4000000 in
theorem rpush_no (E : REnv w p g q hd ln n xs c) (P : RPushAt w b q v l i old false) (A : Apart b p g q v) (hl0 : l ≠ []) (hn : ∀ x ∈ l, x < n) (hl : l.length ≤ 8192) (hi : i = l.length + 1) (h0 : 0 ≤ old) (h1 : old < 18446744073709551616) (hc : xs.getD hd 0 ≠ old) :
    Calls Tryz.prog 47 #[.pointer (some ⟨b, 0, none⟩)] w fun e w' => e = .returned (.bool true) ∧ RPushAt w' b q v l (l.length - 1) old false ∧ Ref w' p g xs (wrap64 (c + 1)) ∧ Else [b, p, g] w w' := by
  obtain ⟨r, cap, rfl, ds⟩ := P.row.get hl0
  have lp := List.length_pos_iff.2 hl0
  have d0 := ds 0 lp
  have m0 := hn _ (Stk.getD_mem lp)
  generalize l.getD 0 0 = x at *
  have HC := Lib.hid hc
  clear ds
  have n1 := E.n1
  have hlx := E.hl
  have hhx := E.hh
  have htx := E.top
  obtain ⟨K, hK⟩ : ∃ K : Nat, K = l.length := ⟨_, rfl⟩
  have HKL := Lib.hid hK
  rw [← hK] at hi lp hl
  have i0 : (0 : Int) ≤ (i : Int) := Int.natCast_nonneg _
  obtain ⟨k, hk⟩ : ∃ k, K - 1 = k := ⟨_, rfl⟩
  have e9 : (K : Int) - 1 = (k : Int) := by omega
  have i1 : (0 : Int) < (K : Int) := by omega
  have i4 : ¬ (i : Int) < (k : Int) := by omega
  have i5 : ¬ ((i : Int) = (k : Int)) := by omega
  have i6 : ¬ ((i : Int) = (K : Int)) := by omega
  have HK9 := Lib.hid (show (k : Int) = ((l.length - 1 : Nat) : Int) by have := HKL.out; omega)
  have HX0 := Lib.hid (show -1 ≤ (x : Int) ∧ (x : Int) ≤ 4096 by omega)
  have s9 : (-9223372036854775808 ≤ (K : Int) - 1 ∧ (K : Int) - 1 ≤ 9223372036854775807) ∧ (K : Int) - 1 < 9223372036854775808 := by omega
  obtain ⟨z5, z6⟩ := s9
  have sK := (IntWalk.i64_in ((K : Int) - 1) z5).trans e9
  have sK2 := (wrap64_in z5.1 z6).trans e9
  clear z5 z6 e9 hk hl hi
  have hb := A.b2
  have hbq := A.bq
  have hq : q ∉ [p, g] := by simp [E.np, E.ng]
  have hr : r ∉ [p, g] := fun hk => A.v2 r hk rfl
  obtain ⟨c0, c1, c2, c3, c4⟩ := P.cells
  rw [← hK] at c1
  have hbr : b ≠ r := fun e => P.away (by rw [e]; rfl)
  have HP := Lib.hid P
  have HE := Lib.hid E
  have HA := Lib.hid A
  clear P E A hK hn hl0 hc
  go_enter Tryz.func47, Tryz.ntmps47
  go_upto_region 3 with fail
  go_quiet (fail)
  replace HP := Lib.hid (HP.out.up (Up.drewN w nq))
  replace HE := Lib.hid (HE.out.up (Up.drewN w nq))
  have HU0 := Lib.hid (Up.drewN w nq)
  clear c0 c1 c2 c3 c4
  go_upto_region 6 with fail
  generalize w.drewN nq = w0 at *
  obtain ⟨c0, c1, c2, c3, c4⟩ := HP.out.cells
  rw [← HKL.out] at c1
  obtain ⟨k0, k1, k2, k3⟩ := HE.out.cells
  replace d0 := HU0.out.kept d0
  go_upto_region 4 with fail
  go_region_held3 (fun w' => w'.cell? ⟨b, 1, none⟩ = some (.slice (some ⟨r, 0, none⟩) K cap) ∧ w'.cell? ⟨b, 3, none⟩ = some (.int .u64 old) ∧ w'.cell? ⟨r, 0, none⟩ = some (.int .i64 x) ∧ w'.cell? ⟨q, 0, none⟩ = some (.pointer (some ⟨p, 0, none⟩)) ∧ w'.cell? ⟨q, 1, none⟩ = some (.int .i64 hd)) ((first | exact ⟨c1, c3, d0, k0, k1⟩ | exact ⟨U1.kept c1, U1.kept c3, U1.kept d0, U1.kept k0, U1.kept k1⟩ | exact ⟨E2.kept (U1.kept c1) hb, E2.kept (U1.kept c3) hb, E2.kept (U1.kept d0) hr, E2.kept (U1.kept k0) hq, E2.kept (U1.kept k1) hq⟩ | exact ⟨kept_set (off_ne (by decide)) (E2.kept (U1.kept c1) hb), kept_set (off_ne (by decide)) (E2.kept (U1.kept c3) hb), kept_set (ad_ne hbr) (E2.kept (U1.kept d0) hr), kept_set (ad_ne hbq) (E2.kept (U1.kept k0) hq), kept_set (ad_ne hbq) (E2.kept (U1.kept k1) hq)⟩))
    (first
      | (go_at_call 88; refine (rnext_in h0 h1 HX0.out.1 HX0.out.2 _).mono ?_; rintro e w1 ⟨rfl, U1⟩)
      | (go_at_call 86; refine (rcas_no _ ((HE.out.mem.up (up_drew w0)).up U1) hhx HC.out).mono ?_; rintro e w2 ⟨rfl, M1, E2⟩; have d4 := E2.kept (p := ⟨b, 4, none⟩) (U1.kept c4) hb; have g4 := ((HP.out.up ((up_drew w0).trans U1)).else E2 HA.out.b2 HA.out.v2).top.frozen 4))
  have E3 := Lib.hid ((Else.of_up ((HU0.out.trans (up_drew w0)).trans U1)).trans E2)
  have P1 := Lib.hid (((HP.out.up ((up_drew w0).trans U1)).else E2 HA.out.b2 HA.out.v2).fin false)
  have M2 := Lib.hid (M1.self HA.out.bp HA.out.bg 4 (.bool false))
  have j2 := P1.out.cells.2.2.1
  have f2 := P1.out.top.frozen 2
  clear M1 E2 U1 c0 c1 c2 c3 c4 d0 k0 k1 k2 k3 d4 g4
  go_wp2_with fail
  go_ret
  refine ⟨rfl, P1.out.count HK9.out, M2.out.self HA.out.bp HA.out.bg _ _, else_self (else_self (E3.out.wide b) (by simp)) (by simp)⟩
end
end Go.Proofs.YtalglhgngedjoaaGreat

/-
  The reference's stack: one Step of a Pop, way by way.
-/
namespace Go.Proofs.YtalglhgngedjoaaGreat
open Go.RowKit
open W64
set_option maxRecDepth 100000
section
variable {w w' : World} {p g q hd ln n b i most : Nat} {xs : List Int} {c : Int} {v v' : Value} {l l' : List Nat} {old deep : Int}
theorem RPopAt.at_ {d : Bool} (P : RPopAt w b q v l most i deep old d) (j : Nat) : RPopAt (w.setCell ⟨b, 2, none⟩ (.int .i64 j)) b q v l most j deep old d := ⟨P.top.set 2 _, row_self P.row P.away _, P.away⟩
theorem RPopAt.below {d : Bool} (P : RPopAt w b q v l most i deep old d) (x : Int) : RPopAt (w.setCell ⟨b, 3, none⟩ (.int .i64 x)) b q v l most i x old d := ⟨P.top.set 3 _, row_self P.row P.away _, P.away⟩
theorem RPopAt.seen {d : Bool} (P : RPopAt w b q v l most i deep old d) (o : Int) : RPopAt (w.setCell ⟨b, 4, none⟩ (.int .u64 o)) b q v l most i deep o d := ⟨P.top.set 4 _, row_self P.row P.away _, P.away⟩
theorem RPopAt.fin {d : Bool} (P : RPopAt w b q v l most i deep old d) (e : Bool) : RPopAt (w.setCell ⟨b, 6, none⟩ (.bool e)) b q v l most i deep old e := ⟨P.top.set 6 _, row_self P.row P.away _, P.away⟩
theorem RPopAt.items {d : Bool} (P : RPopAt w b q v l most i deep old d) (r : Ints w v' (I l')) (a : v'.ownBlock ≠ some b) : RPopAt (w.setCell ⟨b, 5, none⟩ v') b q v' l' most i deep old d := ⟨P.top.set 5 _, row_self r a _, a⟩
theorem REnv.self (E : REnv w p g q hd ln n xs c) (h1 : b ≠ p) (h2 : b ≠ g) (h3 : b ≠ q) (i : Nat) (u : Value) : REnv (w.setCell ⟨b, i, none⟩ u) p g q hd ln n xs c :=
  E.else (x := [b]) ((Else.refl [b] w).set (p := ⟨b, i, none⟩) (.inl (by simp)) u) (by simp [h1.symm]) (by simp [h2.symm]) (by simp [h3.symm])
set_option maxHeartbeats 4000000 in
theorem rpop_none (E : REnv w p g q hd ln n xs c) (P : RPopAt w b q v l most 0 deep old false) (A : Apart b p g q v) (ht : topN n (xs.getD hd 0) = -1) :
    Calls Tryz.prog 77 #[.pointer (some ⟨b, 0, none⟩)] w fun e w' => e = .returned (.bool true) ∧ RPopAt w' b q (.slice none 0 0) [] most 0 deep (xs.getD hd 0) true ∧ Ref w' p g xs (wrap64 (c + 1)) ∧ Else [b, p, g] w w' := by
  have hhx := E.hh
  have okx := E.ok hd
  obtain ⟨x, hx⟩ : ∃ x, xs.getD hd 0 = x := ⟨_, rfl⟩
  rw [hx] at okx ht ⊢
  have HX := Lib.hid hx
  have HT := Lib.hid ht
  clear hx ht
  have hb := A.b2
  have hbq := A.bq
  have hq : q ∉ [p, g] := by simp [E.np, E.ng]
  obtain ⟨c0, c1, c2, c3, c4, c5, c6⟩ := P.cells
  obtain ⟨k0, k1, k2, k3⟩ := E.cells
  have HP := Lib.hid P
  have HE := Lib.hid E
  have HA := Lib.hid A
  clear P E A
  go_enter Tryz.func77, Tryz.ntmps77
  go_upto_region 8 with fail
  go_region_held3 (fun w' => w'.cell? ⟨q, 0, none⟩ = some (.pointer (some ⟨p, 0, none⟩)) ∧ w'.cell? ⟨q, 1, none⟩ = some (.int .i64 hd)) ((first | exact ⟨k0, k1⟩ | exact ⟨E1.kept k0 hq, E1.kept k1 hq⟩ | exact ⟨kept_set (ad_ne hbq) (E1.kept k0 hq), kept_set (ad_ne hbq) (E1.kept k1 hq)⟩))
    (first
      | (go_at_call 80; refine (rload_to (k := hd) rfl (HE.out.mem.up (up_drew w)) hhx HX.out).mono ?_; rintro e w1 ⟨rfl, M1, E1⟩; have d3 := E1.kept (p := ⟨b, 4, none⟩) c4 hb; have g3 := ((HP.out.up (up_drew w)).else E1 HA.out.b2 HA.out.v2).top.frozen 4))
  have E2 := Lib.hid (else_self (b := b) (o := 4) (u := .int .u64 x) (((Else.of_up (up_drew w)).trans E1).wide b) (by simp))
  have P1 := Lib.hid (((HP.out.up (up_drew w)).else E1 HA.out.b2 HA.out.v2).seen x)
  have EE := Lib.hid ((HE.out.turn M1 ((Else.of_up (up_drew w)).trans E1) hq HE.out.ok rfl).self HA.out.bp HA.out.bg HA.out.bq 4 (.int .u64 x))
  clear M1 E1 c0 c1 c2 c3 c4 c5 c6 k0 k1 k2 k3 d3 g3
  go_upto_region 9 with fail
  generalize w1.setCell ⟨b, 4, none⟩ (.int .u64 x) = w2 at *
  have c5 := P1.out.cells.2.2.2.2.2.1
  have f5 := P1.out.top.frozen 5
  go_upto_region 10 with fail
  have P2 := Lib.hid (P1.out.items (l' := []) (Ints.nil _) (by simp [Value.ownBlock]))
  have EF := Lib.hid (EE.out.self HA.out.bp HA.out.bg HA.out.bq 5 (.slice none 0 0))
  have E3 := Lib.hid (else_self (b := b) (o := 5) (u := .slice none 0 0) E2.out (by simp))
  clear c5 f5 P1 EE E2
  generalize w2.setCell ⟨b, 5, none⟩ (.slice none 0 0) = w3 at *
  obtain ⟨c0, c1, c2, c3, c4, c5, c6⟩ := P2.out.cells
  go_upto_region 12 with (first
    | (go_at_call 53; refine (rtop_to EF.out okx.1 okx.2 HT.out).mono ?_; rintro e w4 ⟨rfl, U4⟩))
  have P4 := Lib.hid (P2.out.up U4)
  have EG := Lib.hid (EF.out.up U4)
  have E4 := Lib.hid (E3.out.up U4)
  clear c0 c1 c2 c3 c4 c5 c6 U4
  have c6 := P4.out.cells.2.2.2.2.2.2
  have f6 := P4.out.top.frozen 6
  go_wp2_with fail
  go_ret
  exact ⟨rfl, P4.out.fin true, EG.out.mem.self HA.out.bp HA.out.bg _ _, else_self E4.out (by simp)⟩
set_option maxHeartbeats 4000000 in
theorem rpop_head (E : REnv w p g q hd ln n xs c) (P : RPopAt w b q v l most 0 deep old false) (A : Apart b p g q v) {t : Nat} (ht : topN n (xs.getD hd 0) = t) :
    Calls Tryz.prog 77 #[.pointer (some ⟨b, 0, none⟩)] w fun e w' => e = .returned (.bool true) ∧ (∃ r cap, w.heap.size ≤ r ∧ RPopAt w' b q (.slice (some ⟨r, 0, none⟩) 1 cap) [t] most 1 deep (xs.getD hd 0) false) ∧ Ref w' p g xs (wrap64 (c + 1)) ∧ Else [b, p, g] w w' := by
  have hhx := E.hh
  have okx := E.ok hd
  obtain ⟨x, hx⟩ : ∃ x, xs.getD hd 0 = x := ⟨_, rfl⟩
  rw [hx] at okx ht ⊢
  have HX := Lib.hid hx
  have HT := Lib.hid ht
  clear hx ht
  have i0 : (0 : Int) ≤ (t : Int) := Int.natCast_nonneg _
  have i1 : ¬ (t : Int) < 0 := by omega
  have hb := A.b2
  have hbq := A.bq
  have hq : q ∉ [p, g] := by simp [E.np, E.ng]
  obtain ⟨c0, c1, c2, c3, c4, c5, c6⟩ := P.cells
  obtain ⟨k0, k1, k2, k3⟩ := E.cells
  have HP := Lib.hid P
  have HE := Lib.hid E
  have HA := Lib.hid A
  clear P E A
  go_enter Tryz.func77, Tryz.ntmps77
  go_upto_region 8 with fail
  go_region_held3 (fun w' => w'.cell? ⟨q, 0, none⟩ = some (.pointer (some ⟨p, 0, none⟩)) ∧ w'.cell? ⟨q, 1, none⟩ = some (.int .i64 hd)) ((first | exact ⟨k0, k1⟩ | exact ⟨E1.kept k0 hq, E1.kept k1 hq⟩ | exact ⟨kept_set (ad_ne hbq) (E1.kept k0 hq), kept_set (ad_ne hbq) (E1.kept k1 hq)⟩))
    (first
      | (go_at_call 80; refine (rload_to (k := hd) rfl (HE.out.mem.up (up_drew w)) hhx HX.out).mono ?_; rintro e w1 ⟨rfl, M1, E1⟩; have d3 := E1.kept (p := ⟨b, 4, none⟩) c4 hb; have g3 := ((HP.out.up (up_drew w)).else E1 HA.out.b2 HA.out.v2).top.frozen 4))
  have E2 := Lib.hid (else_self (b := b) (o := 4) (u := .int .u64 x) (((Else.of_up (up_drew w)).trans E1).wide b) (by simp))
  have P1 := Lib.hid (((HP.out.up (up_drew w)).else E1 HA.out.b2 HA.out.v2).seen x)
  have EE := Lib.hid ((HE.out.turn M1 ((Else.of_up (up_drew w)).trans E1) hq HE.out.ok rfl).self HA.out.bp HA.out.bg HA.out.bq 4 (.int .u64 x))
  clear M1 E1 c0 c1 c2 c3 c4 c5 c6 k0 k1 k2 k3 d3 g3
  go_upto_region 9 with fail
  generalize w1.setCell ⟨b, 4, none⟩ (.int .u64 x) = w2 at *
  have c5 := P1.out.cells.2.2.2.2.2.1
  have f5 := P1.out.top.frozen 5
  go_upto_region 10 with fail
  have P2 := Lib.hid (P1.out.items (l' := []) (Ints.nil _) (by simp [Value.ownBlock]))
  have EF := Lib.hid (EE.out.self HA.out.bp HA.out.bg HA.out.bq 5 (.slice none 0 0))
  have E3 := Lib.hid (else_self (b := b) (o := 5) (u := .slice none 0 0) E2.out (by simp))
  clear c5 f5 P1 EE E2
  generalize w2.setCell ⟨b, 5, none⟩ (.slice none 0 0) = w3 at *
  obtain ⟨c0, c1, c2, c3, c4, c5, c6⟩ := P2.out.cells
  go_upto_region 13 with (first
    | (go_at_call 53; refine (rtop_to EF.out okx.1 okx.2 HT.out).mono ?_; rintro e w4 ⟨rfl, U4⟩))
  have P4 := Lib.hid (P2.out.up U4)
  have EG := Lib.hid (EF.out.up U4)
  have E4 := Lib.hid (E3.out.up U4)
  clear c0 c1 c2 c3 c4 c5 c6 U4
  have c5 := P4.out.cells.2.2.2.2.2.1
  go_wp2_with (at_builtin; refine wpList_app (v := .slice none 0 0) rfl _ _ rfl rfl rfl (Ints.nil _) (rd_one _ (t : Int)) (by simp) ?_; intro v5 w5 J5 G5 A5; obtain ⟨r5, k5, e5, _⟩ := Ints.get (l := [t]) J5 (by simp); replace e5 : v5 = .slice (some ⟨r5, 0, none⟩) 1 k5 := e5; subst e5; have HJ5 := Lib.hid J5; have HU5 := Lib.hid (up_app (Up.alloc w4 _) G5 (fresh_nil _)); have HF5 := Lib.hid (fresh_app (fresh_nil w4) (Up.alloc w4 (.cells #[.int .i64 (t : Int)] 3)).size A5); have P5 := Lib.hid (P4.out.up HU5.out); have y5 := P5.out.cells.2.2.2.2.2.1; have g5 := P5.out.top.frozen 5; have y2 := (P5.out.top.set 5 (.slice (some ⟨r5, 0, none⟩) 1 k5)).cell (i := 2) rfl; have g2 := (P5.out.top.set 5 (.slice (some ⟨r5, 0, none⟩) 1 k5)).frozen 2; clear J5 G5 A5)
  go_ret
  have hr5 := HF5.out r5 rfl
  have z4 := E4.out.size
  have z5 := P4.out.top.lt
  have E6 := else_self (b := b) (o := 2) (u := .int .i64 1) (else_self (b := b) (o := 5) (u := .slice (some ⟨r5, 0, none⟩) 1 k5) (E4.out.up HU5.out) (by simp)) (by simp)
  exact ⟨rfl, ⟨r5, k5, by omega, (P5.out.items (l' := [t]) HJ5.out (by simp [Value.ownBlock]; omega)).at_ 1⟩, ((EG.out.up HU5.out).mem.self HA.out.bp HA.out.bg _ _).self HA.out.bp HA.out.bg _ _, E6⟩
end
end Go.Proofs.YtalglhgngedjoaaGreat
