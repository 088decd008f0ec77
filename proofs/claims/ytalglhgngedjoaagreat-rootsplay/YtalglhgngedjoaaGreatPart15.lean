/-
  Texts beneath RootsPlay, part 15: RefPop2, RStkStep.
-/
import Derived.Test.YtalglhgngedjoaaGreatPart14
import Derived.Deep.RegionLaw
/-
  The reference's stack: one Step of a Pop, way by way.
-/
namespace Go.Proofs.YtalglhgngedjoaaGreat
open Go.RowKit
open W64
set_option maxRecDepth 100000
section
variable {w w' : World} {p g q hd ln n b i most : Nat} {xs : List Int} {c : Int} {v v' : Value} {l l' : List Nat} {old deep : Int}
theorem rmore_end {w w4 w5 : World} {p g q b most r cap K N d : Nat} {xs : List Int} {c : Int} {l : List Nat} {deep old : Int} {A5 : Option Addr} {c5 : Nat} {o : Obj}
    (P : RPopAt w4 b q (.slice (some ⟨r, 0, none⟩) l.length cap) l most 1 deep old false) (M : Ref w4 p g xs c) (E : Else [b, p, g] w w4) (A : Apart b p g q (.slice (some ⟨r, 0, none⟩) l.length cap)) (hK : K = l.length)
    (J : Ints w5 (.slice A5 N c5) (I l ++ [(d : Int)])) (G : (w4.drew.alloc o).grownBy w5 (Value.slice (some ⟨r, 0, none⟩) K cap).ownBlock) (hat : (Value.slice A5 N c5).ownBlock = (Value.slice (some ⟨r, 0, none⟩) K cap).ownBlock ∨ (Value.slice A5 N c5).ownBlock = some (w4.drew.alloc o).heap.size) :
    (∃ r' cap', ((Value.slice (some ⟨r, 0, none⟩) l.length cap).ownBlock = some r' ∨ w.heap.size ≤ r') ∧ RPopAt (w5.setCell ⟨b, 5, none⟩ (.slice A5 N c5)) b q (.slice (some ⟨r', 0, none⟩) (l.length + 1) cap') (l ++ [d]) most 1 deep old false) ∧
    Ref (w5.setCell ⟨b, 5, none⟩ (.slice A5 N c5)) p g xs c ∧ ∀ r', (Value.slice (some ⟨r, 0, none⟩) l.length cap).ownBlock = some r' → Else [b, r', p, g] w (w5.setCell ⟨b, 5, none⟩ (.slice A5 N c5)) := by
  subst hK
  have U : Up w4 (w4.drew.alloc o) := (up_drew w4).then_alloc o
  have hbw := P.top.lt
  have hrb : r ≠ b := fun e => P.away (by rw [e]; rfl)
  have EG := Else.of_grown G
  have J2 : Ints w5 (.slice A5 N c5) (I (l ++ [d])) := by rw [show I (l ++ [d]) = I l ++ I [d] by simp [I]]; exact J
  obtain ⟨r5, k5, e5, _⟩ := J2.get (by simp)
  injection e5 with e1 e2 e3
  subst e1 e2 e3
  have zz : (w4.drew.alloc o).heap.size = w4.heap.size + 1 := by simp
  have hgb : r5 ≠ b := by
    rcases hat with h | h
    · simp [Value.ownBlock] at h; omega
    · simp [Value.ownBlock] at h; omega
  have top := EG.whole (P.top.up U) (by simp [Value.ownBlock]; exact fun e => hrb e.symm)
  have M2 := (M.up U).else EG (by simp [Value.ownBlock]; exact fun e => A.vp (by simp [Value.ownBlock, e])) (by simp [Value.ownBlock]; exact fun e => A.vg (by simp [Value.ownBlock, e]))
  have hlen : (l ++ [d]).length = l.length + 1 := by simp
  rw [hlen] at J2 ⊢
  refine ⟨⟨r5, c5, ?_, ⟨top.set 5 _, row_self J2 (by simp [Value.ownBlock]; exact hgb) _, by simp [Value.ownBlock]; exact hgb⟩⟩, M2.self A.bp A.bg _ _, fun r' hr' => ?_⟩
  · rcases hat with h | h
    · exact .inl h.symm
    · have := E.size; simp [Value.ownBlock] at h; exact .inr (by omega)
  · simp [Value.ownBlock] at hr'; subst hr'
    have E1 : Else [b, r, p, g] w w4 := E.more (by intro k hk; simp at hk ⊢; rcases hk with h | h | h <;> simp [h])
    have E2 : Else [b, r, p, g] (w4.drew.alloc o) w5 := EG.more (by intro k hk; simp [Value.ownBlock] at hk; simp [hk])
    exact else_self ((E1.up U).trans E2) (by simp)
set_option maxHeartbeats 4000000 in
theorem rpop_stopA (E : REnv w p g q hd ln n xs c) (P : RPopAt w b q v l most 1 deep old false) (A : Apart b p g q v) (hl0 : l ≠ []) (hn : ∀ x ∈ l, x < n) (hl : l.length ≤ 8) (hd' : belowN n (xs.getD (ln + l.getD (l.length - 1) 0) 0) = -1) :
    Calls Tryz.prog 77 #[.pointer (some ⟨b, 0, none⟩)] w fun e w' => e = .returned (.bool true) ∧ RPopAt w' b q v l most 2 (-1) old false ∧ Ref w' p g xs (wrap64 (c + 1)) ∧ Else [b, p, g] w w' := by
  obtain ⟨r, cap, rfl, ds⟩ := P.row.get hl0
  have lp := List.length_pos_iff.2 hl0
  have d0 := ds (l.length - 1) (by omega)
  clear ds
  have m0 := hn _ (Stk.getD_mem (show l.length - 1 < l.length by omega))
  generalize l.getD (l.length - 1) 0 = x at *
  have n1 := E.n1
  have hlx := E.hl
  have htx := E.top
  have okx := E.ok (ln + x)
  obtain ⟨y, hy⟩ : ∃ y, xs.getD (ln + x) 0 = y := ⟨_, rfl⟩
  rw [hy] at okx hd'
  have HY := Lib.hid hy
  have HD := Lib.hid hd'
  obtain ⟨K, hK⟩ : ∃ K : Nat, K = l.length := ⟨_, rfl⟩
  have HKL := Lib.hid hK
  rw [← hK] at lp hl d0
  obtain ⟨k, hk⟩ : ∃ k, K - 1 = k := ⟨_, rfl⟩
  rw [hk] at d0
  have e9 : (K : Int) - 1 = (k : Int) := by omega
  have j1 : (k : Int) < (K : Int) := by omega
  have j2 : (0 : Int) ≤ (k : Int) := Int.natCast_nonneg _
  have HLT := Lib.hid (show ln + x < xs.length by omega)
  have HAD := Lib.hid (show (ln : Int) + (x : Int) = ((ln + x : Nat) : Int) by omega)
  have HK8 := Lib.hid hl
  have s9 : ln + x ≤ 8400000 ∧ (-9223372036854775808 ≤ (K : Int) - 1 ∧ (K : Int) - 1 ≤ 9223372036854775807) ∧ (K : Int) - 1 < 9223372036854775808 := by omega
  obtain ⟨z4, z5, z6⟩ := s9
  obtain ⟨s3, s4⟩ := wrapS (a := ln) (b := x) z4
  have sK := (IntWalk.i64_in ((K : Int) - 1) z5).trans e9
  have sK2 := (wrap64_in z5.1 z6).trans e9
  have hr : r ∉ [p, g] := fun hk => A.v2 r hk rfl
  have hbr : b ≠ r := fun e => P.away (by rw [e]; rfl)
  clear z4 z5 z6 e9 hk hl lp hy hd' hn hl0 hK
  have hb := A.b2
  have hbq := A.bq
  have hq : q ∉ [p, g] := by simp [E.np, E.ng]
  obtain ⟨c0, c1, c2, c3, c4, c5, c6⟩ := P.cells
  obtain ⟨k0, k1, k2, k3⟩ := E.cells
  have HP := Lib.hid P
  have HE := Lib.hid E
  have HA := Lib.hid A
  clear P E A
  go_enter Tryz.func77, Tryz.ntmps77
  rw [← HKL.out] at c5
  go_upto_region 15 with fail
  go_region_held3 (fun w' => w'.cell? ⟨b, 5, none⟩ = some (.slice (some ⟨r, 0, none⟩) K cap) ∧ w'.cell? ⟨r, k, none⟩ = some (.int .i64 x) ∧ w'.cell? ⟨q, 0, none⟩ = some (.pointer (some ⟨p, 0, none⟩)) ∧ w'.cell? ⟨q, 2, none⟩ = some (.int .i64 ln)) ((first | exact ⟨c5, d0, k0, k2⟩ | exact ⟨E1.kept c5 hb, E1.kept d0 hr, E1.kept k0 hq, E1.kept k2 hq⟩ | exact ⟨kept_set (off_ne (by decide)) (E1.kept c5 hb), kept_set (ad_ne hbr) (E1.kept d0 hr), kept_set (ad_ne hbq) (E1.kept k0 hq), kept_set (ad_ne hbq) (E1.kept k2 hq)⟩))
    (first
      | (go_at_call 80; refine (rload_to (k := ln + x) HAD.out (HE.out.mem.up (up_drew w)) HLT.out HY.out).mono ?_; rintro e w1 ⟨rfl, M1, E1⟩; have EE := Lib.hid (HE.out.turn M1 ((Else.of_up (up_drew w)).trans E1) hq HE.out.ok rfl); have d3 := E1.kept (p := ⟨b, 3, none⟩) c3 hb; have g3 := ((HP.out.up (up_drew w)).else E1 HA.out.b2 HA.out.v2).top.frozen 3)
      | (go_at_call 54; refine (rbelow_to EE.out okx.1 okx.2 HD.out).mono ?_; rintro e w9 ⟨rfl, rfl⟩))
  have E2 := Lib.hid (else_self (b := b) (o := 3) (u := .int .i64 (-1)) (((Else.of_up (up_drew w)).trans E1).wide b) (by simp))
  have P1 := Lib.hid (((HP.out.up (up_drew w)).else E1 HA.out.b2 HA.out.v2).below (-1))
  have EF := Lib.hid (EE.out.self HA.out.bp HA.out.bg HA.out.bq 3 (.int .i64 (-1)))
  clear M1 E1 EE c0 c1 c2 c3 c4 c5 c6 k0 k1 k2 k3 d3 g3 d0
  go_upto_region 16 with fail
  generalize w1.setCell ⟨b, 3, none⟩ (.int .i64 (-1)) = w2 at *
  obtain ⟨c0, c1, c2, c3, c4, c5, c6⟩ := P1.out.cells
  rw [← HKL.out] at c5
  go_quiet (fail)
  replace P1 := Lib.hid (P1.out.up (Up.drewN w2 nq))
  replace EF := Lib.hid (EF.out.up (Up.drewN w2 nq))
  replace E2 := Lib.hid (E2.out.up (Up.drewN w2 nq))
  clear c0 c1 c2 c3 c4 c5 c6
  go_upto_region 18 with fail
  generalize w2.drewN nq = w4 at *
  have c2 := P1.out.cells.2.2.1
  have f2 := P1.out.top.frozen 2
  go_wp2_with fail
  go_ret
  exact ⟨rfl, P1.out.at_ 2, EF.out.mem.self HA.out.bp HA.out.bg _ _, else_self E2.out (by simp)⟩
set_option maxHeartbeats 4000000 in
theorem rpop_stopB (E : REnv w p g q hd ln n xs c) (P : RPopAt w b q v l most 1 deep old false) (A : Apart b p g q v) (hl0 : l ≠ []) (hn : ∀ x ∈ l, x < n) (hl : l.length ≤ 8) (hm : l.length = most) {d : Nat} (hd' : belowN n (xs.getD (ln + l.getD (l.length - 1) 0) 0) = d) :
    Calls Tryz.prog 77 #[.pointer (some ⟨b, 0, none⟩)] w fun e w' => e = .returned (.bool true) ∧ RPopAt w' b q v l most 2 d old false ∧ Ref w' p g xs (wrap64 (c + 1)) ∧ Else [b, p, g] w w' := by
  obtain ⟨r, cap, rfl, ds⟩ := P.row.get hl0
  have lp := List.length_pos_iff.2 hl0
  have d0 := ds (l.length - 1) (by omega)
  clear ds
  have m0 := hn _ (Stk.getD_mem (show l.length - 1 < l.length by omega))
  generalize l.getD (l.length - 1) 0 = x at *
  have n1 := E.n1
  have hlx := E.hl
  have htx := E.top
  have okx := E.ok (ln + x)
  obtain ⟨y, hy⟩ : ∃ y, xs.getD (ln + x) 0 = y := ⟨_, rfl⟩
  rw [hy] at okx hd'
  have HY := Lib.hid hy
  have HD := Lib.hid hd'
  obtain ⟨K, hK⟩ : ∃ K : Nat, K = l.length := ⟨_, rfl⟩
  have HKL := Lib.hid hK
  rw [← hK] at lp hl d0 hm
  obtain ⟨k, hk⟩ : ∃ k, K - 1 = k := ⟨_, rfl⟩
  rw [hk] at d0
  have e9 : (K : Int) - 1 = (k : Int) := by omega
  have j1 : (k : Int) < (K : Int) := by omega
  have j2 : (0 : Int) ≤ (k : Int) := Int.natCast_nonneg _
  have j3 : (0 : Int) ≤ (d : Int) := Int.natCast_nonneg _
  have j4 : ¬ (K : Int) < (most : Int) := by omega
  have HLT := Lib.hid (show ln + x < xs.length by omega)
  have HAD := Lib.hid (show (ln : Int) + (x : Int) = ((ln + x : Nat) : Int) by omega)
  have HK8 := Lib.hid hl
  have s9 : ln + x ≤ 8400000 ∧ (-9223372036854775808 ≤ (K : Int) - 1 ∧ (K : Int) - 1 ≤ 9223372036854775807) ∧ (K : Int) - 1 < 9223372036854775808 := by omega
  obtain ⟨z4, z5, z6⟩ := s9
  obtain ⟨s3, s4⟩ := wrapS (a := ln) (b := x) z4
  have sK := (IntWalk.i64_in ((K : Int) - 1) z5).trans e9
  have sK2 := (wrap64_in z5.1 z6).trans e9
  have hr : r ∉ [p, g] := fun hk => A.v2 r hk rfl
  have hbr : b ≠ r := fun e => P.away (by rw [e]; rfl)
  clear z4 z5 z6 e9 hk hl lp hy hd' hn hl0 hK hm
  have hb := A.b2
  have hbq := A.bq
  have hq : q ∉ [p, g] := by simp [E.np, E.ng]
  obtain ⟨c0, c1, c2, c3, c4, c5, c6⟩ := P.cells
  obtain ⟨k0, k1, k2, k3⟩ := E.cells
  have HP := Lib.hid P
  have HE := Lib.hid E
  have HA := Lib.hid A
  clear P E A
  go_enter Tryz.func77, Tryz.ntmps77
  rw [← HKL.out] at c5
  go_upto_region 15 with fail
  go_region_held3 (fun w' => w'.cell? ⟨b, 5, none⟩ = some (.slice (some ⟨r, 0, none⟩) K cap) ∧ w'.cell? ⟨r, k, none⟩ = some (.int .i64 x) ∧ w'.cell? ⟨q, 0, none⟩ = some (.pointer (some ⟨p, 0, none⟩)) ∧ w'.cell? ⟨q, 2, none⟩ = some (.int .i64 ln)) ((first | exact ⟨c5, d0, k0, k2⟩ | exact ⟨E1.kept c5 hb, E1.kept d0 hr, E1.kept k0 hq, E1.kept k2 hq⟩ | exact ⟨kept_set (off_ne (by decide)) (E1.kept c5 hb), kept_set (ad_ne hbr) (E1.kept d0 hr), kept_set (ad_ne hbq) (E1.kept k0 hq), kept_set (ad_ne hbq) (E1.kept k2 hq)⟩))
    (first
      | (go_at_call 80; refine (rload_to (k := ln + x) HAD.out (HE.out.mem.up (up_drew w)) HLT.out HY.out).mono ?_; rintro e w1 ⟨rfl, M1, E1⟩; have EE := Lib.hid (HE.out.turn M1 ((Else.of_up (up_drew w)).trans E1) hq HE.out.ok rfl); have d3 := E1.kept (p := ⟨b, 3, none⟩) c3 hb; have g3 := ((HP.out.up (up_drew w)).else E1 HA.out.b2 HA.out.v2).top.frozen 3)
      | (go_at_call 54; refine (rbelow_to EE.out okx.1 okx.2 HD.out).mono ?_; rintro e w9 ⟨rfl, rfl⟩))
  have E2 := Lib.hid (else_self (b := b) (o := 3) (u := .int .i64 (d : Int)) (((Else.of_up (up_drew w)).trans E1).wide b) (by simp))
  have P1 := Lib.hid (((HP.out.up (up_drew w)).else E1 HA.out.b2 HA.out.v2).below (d : Int))
  have EF := Lib.hid (EE.out.self HA.out.bp HA.out.bg HA.out.bq 3 (.int .i64 (d : Int)))
  clear M1 E1 EE c0 c1 c2 c3 c4 c5 c6 k0 k1 k2 k3 d3 g3 d0
  go_upto_region 16 with fail
  generalize w1.setCell ⟨b, 3, none⟩ (.int .i64 (d : Int)) = w2 at *
  obtain ⟨c0, c1, c2, c3, c4, c5, c6⟩ := P1.out.cells
  rw [← HKL.out] at c5
  go_quiet (fail)
  replace P1 := Lib.hid (P1.out.up (Up.drewN w2 nq))
  replace EF := Lib.hid (EF.out.up (Up.drewN w2 nq))
  replace E2 := Lib.hid (E2.out.up (Up.drewN w2 nq))
  clear c0 c1 c2 c3 c4 c5 c6
  go_upto_region 18 with fail
  generalize w2.drewN nq = w4 at *
  have c2 := P1.out.cells.2.2.1
  have f2 := P1.out.top.frozen 2
  go_wp2_with fail
  go_ret
  exact ⟨rfl, P1.out.at_ 2, EF.out.mem.self HA.out.bp HA.out.bg _ _, else_self E2.out (by simp)⟩
set_option maxHeartbeats 4000000 in
theorem rpop_more (E : REnv w p g q hd ln n xs c) (P : RPopAt w b q v l most 1 deep old false) (A : Apart b p g q v) (hl0 : l ≠ []) (hn : ∀ x ∈ l, x < n) (hl : l.length ≤ 8) (hm : l.length < most) {d : Nat} (hd' : belowN n (xs.getD (ln + l.getD (l.length - 1) 0) 0) = d) :
    Calls Tryz.prog 77 #[.pointer (some ⟨b, 0, none⟩)] w fun e w' => e = .returned (.bool true) ∧ (∃ r cap, (v.ownBlock = some r ∨ w.heap.size ≤ r) ∧ RPopAt w' b q (.slice (some ⟨r, 0, none⟩) (l.length + 1) cap) (l ++ [d]) most 1 d old false) ∧ Ref w' p g xs (wrap64 (c + 1)) ∧ (∀ r, v.ownBlock = some r → Else [b, r, p, g] w w') := by
  obtain ⟨r, cap, rfl, ds⟩ := P.row.get hl0
  have lp := List.length_pos_iff.2 hl0
  have d0 := ds (l.length - 1) (by omega)
  clear ds
  have m0 := hn _ (Stk.getD_mem (show l.length - 1 < l.length by omega))
  generalize l.getD (l.length - 1) 0 = x at *
  have n1 := E.n1
  have hlx := E.hl
  have htx := E.top
  have okx := E.ok (ln + x)
  obtain ⟨y, hy⟩ : ∃ y, xs.getD (ln + x) 0 = y := ⟨_, rfl⟩
  rw [hy] at okx hd'
  have HY := Lib.hid hy
  have HD := Lib.hid hd'
  obtain ⟨K, hK⟩ : ∃ K : Nat, K = l.length := ⟨_, rfl⟩
  have HKL := Lib.hid hK
  rw [← hK] at lp hl d0 hm
  obtain ⟨k, hk⟩ : ∃ k, K - 1 = k := ⟨_, rfl⟩
  rw [hk] at d0
  have e9 : (K : Int) - 1 = (k : Int) := by omega
  have j1 : (k : Int) < (K : Int) := by omega
  have j2 : (0 : Int) ≤ (k : Int) := Int.natCast_nonneg _
  have j3 : (0 : Int) ≤ (d : Int) := Int.natCast_nonneg _
  have j4 : (K : Int) < (most : Int) := by omega
  have HLT := Lib.hid (show ln + x < xs.length by omega)
  have HAD := Lib.hid (show (ln : Int) + (x : Int) = ((ln + x : Nat) : Int) by omega)
  have HK8 := Lib.hid hl
  have s9 : ln + x ≤ 8400000 ∧ (-9223372036854775808 ≤ (K : Int) - 1 ∧ (K : Int) - 1 ≤ 9223372036854775807) ∧ (K : Int) - 1 < 9223372036854775808 := by omega
  obtain ⟨z4, z5, z6⟩ := s9
  obtain ⟨s3, s4⟩ := wrapS (a := ln) (b := x) z4
  have sK := (IntWalk.i64_in ((K : Int) - 1) z5).trans e9
  have sK2 := (wrap64_in z5.1 z6).trans e9
  have hr : r ∉ [p, g] := fun hk => A.v2 r hk rfl
  have hbr : b ≠ r := fun e => P.away (by rw [e]; rfl)
  clear z4 z5 z6 e9 hk hl lp hy hd' hn hl0 hK hm
  have hb := A.b2
  have hbq := A.bq
  have hq : q ∉ [p, g] := by simp [E.np, E.ng]
  obtain ⟨c0, c1, c2, c3, c4, c5, c6⟩ := P.cells
  obtain ⟨k0, k1, k2, k3⟩ := E.cells
  have HP := Lib.hid P
  have HE := Lib.hid E
  have HA := Lib.hid A
  clear P E A
  go_enter Tryz.func77, Tryz.ntmps77
  rw [← HKL.out] at c5
  go_upto_region 15 with fail
  go_region_held3 (fun w' => w'.cell? ⟨b, 5, none⟩ = some (.slice (some ⟨r, 0, none⟩) K cap) ∧ w'.cell? ⟨r, k, none⟩ = some (.int .i64 x) ∧ w'.cell? ⟨q, 0, none⟩ = some (.pointer (some ⟨p, 0, none⟩)) ∧ w'.cell? ⟨q, 2, none⟩ = some (.int .i64 ln)) ((first | exact ⟨c5, d0, k0, k2⟩ | exact ⟨E1.kept c5 hb, E1.kept d0 hr, E1.kept k0 hq, E1.kept k2 hq⟩ | exact ⟨kept_set (off_ne (by decide)) (E1.kept c5 hb), kept_set (ad_ne hbr) (E1.kept d0 hr), kept_set (ad_ne hbq) (E1.kept k0 hq), kept_set (ad_ne hbq) (E1.kept k2 hq)⟩))
    (first
      | (go_at_call 80; refine (rload_to (k := ln + x) HAD.out (HE.out.mem.up (up_drew w)) HLT.out HY.out).mono ?_; rintro e w1 ⟨rfl, M1, E1⟩; have EE := Lib.hid (HE.out.turn M1 ((Else.of_up (up_drew w)).trans E1) hq HE.out.ok rfl); have d3 := E1.kept (p := ⟨b, 3, none⟩) c3 hb; have g3 := ((HP.out.up (up_drew w)).else E1 HA.out.b2 HA.out.v2).top.frozen 3)
      | (go_at_call 54; refine (rbelow_to EE.out okx.1 okx.2 HD.out).mono ?_; rintro e w9 ⟨rfl, rfl⟩))
  have E2 := Lib.hid (else_self (b := b) (o := 3) (u := .int .i64 (d : Int)) (((Else.of_up (up_drew w)).trans E1).wide b) (by simp))
  have P1 := Lib.hid (((HP.out.up (up_drew w)).else E1 HA.out.b2 HA.out.v2).below (d : Int))
  have EF := Lib.hid (EE.out.self HA.out.bp HA.out.bg HA.out.bq 3 (.int .i64 (d : Int)))
  clear M1 E1 EE c0 c1 c2 c3 c4 c5 c6 k0 k1 k2 k3 d3 g3 d0
  go_upto_region 16 with fail
  generalize w1.setCell ⟨b, 3, none⟩ (.int .i64 (d : Int)) = w2 at *
  obtain ⟨c0, c1, c2, c3, c4, c5, c6⟩ := P1.out.cells
  rw [← HKL.out] at c5
  go_quiet (fail)
  replace P1 := Lib.hid (P1.out.up (Up.drewN w2 nq))
  replace EF := Lib.hid (EF.out.up (Up.drewN w2 nq))
  replace E2 := Lib.hid (E2.out.up (Up.drewN w2 nq))
  clear c0 c1 c2 c3 c4 c5 c6
  go_upto_region 17 with fail
  generalize w2.drewN nq = w4 at *
  obtain ⟨c0, c1, c2, c3, c4, c5, c6⟩ := P1.out.cells
  rw [← HKL.out] at c5
  have HJ := P1.out.row
  rw [← HKL.out] at HJ
  replace HJ := Lib.hid HJ
  have c5a := (Up.alloc w4 (.cells #[.int .i64 (d : Int)] 3)).kept c5
  go_region_law (refine step_app (by rfl) _ _ (by rfl) (by rfl) (by rfl) ((HJ.out.up (up_drew w4)).up (Up.alloc _ _)) (rd_one _ (d : Int)) (by rw [I_len]; have := HK8.out; have := HKL.out; simp; omega) ?_; intro v5 w5 J5 G5 A5; obtain ⟨A5v, N5, c5', e5⟩ := shapeI J5; subst e5; have HJ5 := Lib.hid J5; have HG5 := Lib.hid G5; have HA5 := Lib.hid A5; have T5 := Lib.hid (Whole.grown ((P1.out.up (up_drew w4)).up (Up.alloc _ _)).top G5 (by simp [Value.ownBlock]; exact hbr)); have y5 := T5.out.cell (i := 5) rfl; have g5 := T5.out.frozen 5; clear J5 G5 A5)
  all_goals
    clear c0 c1 c2 c3 c4 c5 c6 c5a
    go_wp2_with fail
    go_ret
    exact ⟨rfl, rmore_end P1.out EF.out.mem E2.out HA.out HKL.out HJ5.out HG5.out HA5.out⟩
set_option maxHeartbeats 4000000 in
theorem rpop_yes (E : REnv w p g q hd ln n xs c) (P : RPopAt w b q v l most 2 deep old false) (A : Apart b p g q v) (h0 : 0 ≤ old) (h1 : old < 18446744073709551616) (e0 : -1 ≤ deep) (e1 : deep < n) (hc : xs.getD hd 0 = old) :
    Calls Tryz.prog 77 #[.pointer (some ⟨b, 0, none⟩)] w fun e w' => e = .returned (.bool true) ∧ RPopAt w' b q v l most 0 deep old true ∧ Ref w' p g (xs.set hd (nextW old deep)) (wrap64 (c + 1)) ∧ Else [b, p, g] w w' := by
  have hhx := E.hh
  have n1 := E.n1
  have HX0 := Lib.hid (show -1 ≤ deep ∧ deep ≤ 4096 by omega)
  have HC := Lib.hid hc
  clear hc
  have hb := A.b2
  have hbq := A.bq
  have hq : q ∉ [p, g] := by simp [E.np, E.ng]
  obtain ⟨c0, c1, c2, c3, c4, c5, c6⟩ := P.cells
  obtain ⟨k0, k1, k2, k3⟩ := E.cells
  have HP := Lib.hid P
  have HE := Lib.hid E
  have HA := Lib.hid A
  clear P E A
  go_enter Tryz.func77, Tryz.ntmps77
  go_upto_region 5 with fail
  go_region_held3 (fun w' => w'.cell? ⟨b, 3, none⟩ = some (.int .i64 deep) ∧ w'.cell? ⟨b, 4, none⟩ = some (.int .u64 old) ∧ w'.cell? ⟨q, 0, none⟩ = some (.pointer (some ⟨p, 0, none⟩)) ∧ w'.cell? ⟨q, 1, none⟩ = some (.int .i64 hd)) ((first | exact ⟨c3, c4, k0, k1⟩ | exact ⟨U1.kept c3, U1.kept c4, U1.kept k0, U1.kept k1⟩ | exact ⟨E2.kept (U1.kept c3) hb, E2.kept (U1.kept c4) hb, E2.kept (U1.kept k0) hq, E2.kept (U1.kept k1) hq⟩ | exact ⟨kept_set (off_ne (by decide)) (E2.kept (U1.kept c3) hb), kept_set (off_ne (by decide)) (E2.kept (U1.kept c4) hb), kept_set (ad_ne hbq) (E2.kept (U1.kept k0) hq), kept_set (ad_ne hbq) (E2.kept (U1.kept k1) hq)⟩))
    (first
      | (go_at_call 88; refine (rnext_in h0 h1 HX0.out.1 HX0.out.2 _).mono ?_; rintro e w1 ⟨rfl, U1⟩)
      | (go_at_call 86; refine (rcas_yes _ ((HE.out.mem.up (up_drew w)).up U1) hhx HC.out).mono ?_; rintro e w2 ⟨rfl, M1, E2⟩; have d4 := E2.kept (p := ⟨b, 6, none⟩) (U1.kept c6) hb; have g4 := ((HP.out.up ((up_drew w).trans U1)).else E2 HA.out.b2 HA.out.v2).top.frozen 6))
  have E3 := Lib.hid ((Else.of_up ((up_drew w).trans U1)).trans E2)
  have P1 := Lib.hid (((HP.out.up ((up_drew w).trans U1)).else E2 HA.out.b2 HA.out.v2).fin true)
  have M2 := Lib.hid (M1.self HA.out.bp HA.out.bg 6 (.bool true))
  have j2 := P1.out.cells.2.2.1
  have f2 := P1.out.top.frozen 2
  clear M1 E2 U1 c0 c1 c2 c3 c4 c5 c6 k0 k1 k2 k3 d4 g4
  go_wp2_with fail
  go_ret
  refine ⟨rfl, P1.out.at_ 0, M2.out.self HA.out.bp HA.out.bg _ _, else_self (else_self (E3.out.wide b) (by simp)) (by simp)⟩
set_option maxHeartbeats 4000000 in
theorem rpop_no (E : REnv w p g q hd ln n xs c) (P : RPopAt w b q v l most 2 deep old false) (A : Apart b p g q v) (h0 : 0 ≤ old) (h1 : old < 18446744073709551616) (e0 : -1 ≤ deep) (e1 : deep < n) (hc : xs.getD hd 0 ≠ old) :
    Calls Tryz.prog 77 #[.pointer (some ⟨b, 0, none⟩)] w fun e w' => e = .returned (.bool true) ∧ RPopAt w' b q v l most 0 deep old false ∧ Ref w' p g xs (wrap64 (c + 1)) ∧ Else [b, p, g] w w' := by
  have hhx := E.hh
  have n1 := E.n1
  have HX0 := Lib.hid (show -1 ≤ deep ∧ deep ≤ 4096 by omega)
  have HC := Lib.hid hc
  clear hc
  have hb := A.b2
  have hbq := A.bq
  have hq : q ∉ [p, g] := by simp [E.np, E.ng]
  obtain ⟨c0, c1, c2, c3, c4, c5, c6⟩ := P.cells
  obtain ⟨k0, k1, k2, k3⟩ := E.cells
  have HP := Lib.hid P
  have HE := Lib.hid E
  have HA := Lib.hid A
  clear P E A
  go_enter Tryz.func77, Tryz.ntmps77
  go_upto_region 5 with fail
  go_region_held3 (fun w' => w'.cell? ⟨b, 3, none⟩ = some (.int .i64 deep) ∧ w'.cell? ⟨b, 4, none⟩ = some (.int .u64 old) ∧ w'.cell? ⟨q, 0, none⟩ = some (.pointer (some ⟨p, 0, none⟩)) ∧ w'.cell? ⟨q, 1, none⟩ = some (.int .i64 hd)) ((first | exact ⟨c3, c4, k0, k1⟩ | exact ⟨U1.kept c3, U1.kept c4, U1.kept k0, U1.kept k1⟩ | exact ⟨E2.kept (U1.kept c3) hb, E2.kept (U1.kept c4) hb, E2.kept (U1.kept k0) hq, E2.kept (U1.kept k1) hq⟩ | exact ⟨kept_set (off_ne (by decide)) (E2.kept (U1.kept c3) hb), kept_set (off_ne (by decide)) (E2.kept (U1.kept c4) hb), kept_set (ad_ne hbq) (E2.kept (U1.kept k0) hq), kept_set (ad_ne hbq) (E2.kept (U1.kept k1) hq)⟩))
    (first
      | (go_at_call 88; refine (rnext_in h0 h1 HX0.out.1 HX0.out.2 _).mono ?_; rintro e w1 ⟨rfl, U1⟩)
      | (go_at_call 86; refine (rcas_no _ ((HE.out.mem.up (up_drew w)).up U1) hhx HC.out).mono ?_; rintro e w2 ⟨rfl, M1, E2⟩; have d4 := E2.kept (p := ⟨b, 6, none⟩) (U1.kept c6) hb; have g4 := ((HP.out.up ((up_drew w).trans U1)).else E2 HA.out.b2 HA.out.v2).top.frozen 6))
  have E3 := Lib.hid ((Else.of_up ((up_drew w).trans U1)).trans E2)
  have P1 := Lib.hid (((HP.out.up ((up_drew w).trans U1)).else E2 HA.out.b2 HA.out.v2).fin false)
  have M2 := Lib.hid (M1.self HA.out.bp HA.out.bg 6 (.bool false))
  have j2 := P1.out.cells.2.2.1
  have f2 := P1.out.top.frozen 2
  clear M1 E2 U1 c0 c1 c2 c3 c4 c5 c6 k0 k1 k2 k3 d4 g4
  go_wp2_with fail
  go_ret
  refine ⟨rfl, P1.out.at_ 0, M2.out.self HA.out.bp HA.out.bg _ _, else_self (else_self (E3.out.wide b) (by simp)) (by simp)⟩
end
end Go.Proofs.YtalglhgngedjoaaGreat

/-
  The reference's stack: Step, Got of a Pop, Step of a Push, told by the same plain data (Po, Pu), at any memory; both begin.
-/
namespace Go.Proofs.YtalglhgngedjoaaGreat
open Go.RowKit
open W64
set_option maxRecDepth 100000
section
variable {w w' : World} {p g q hd ln n b r : Nat} {xs xs' : List Int} {c c' : Int} {v v' : Value} {P : Po} {U : Pu} {l : List Nat} {own : List Nat}
theorem REnv.went (E : REnv w p g q hd ln n xs c) (m : Ref w' p g xs' c') {t : List Nat} (u : Else t w w') (hq : q ∉ t) (ok : Words xs') (hl : xs'.length = xs.length) : REnv w' p g q hd ln n xs' c' := E.turn m u hq ok hl
def RAcc (w : World) (p g q hd ln n : Nat) (c : Int) (xs : List Int) (own : List Nat) (M : World → Prop) (w' : World) : Prop :=
  REnv w' p g q hd ln n xs (wrap64 (c + 1)) ∧ M w' ∧ Else (own ++ [p, g]) w w'
structure RPoM (w : World) (b q n : Nat) (v : Value) (P : Po) : Prop where
  at_ : RPopAt w b q v P.l P.most P.i P.deep P.old P.fin
  ok : P.Ok n
theorem RPoM.else (M : RPoM w b q n v P) {t : List Nat} (u : Else t w w') (h1 : b ∉ t) (h2 : Away v t) : RPoM w' b q n v P := ⟨M.at_.else u h1 h2, M.ok⟩
theorem RPoM.up (M : RPoM w b q n v P) (u : Up w w') : RPoM w' b q n v P := ⟨M.at_.up u, M.ok⟩
structure RPuM (w : World) (b q n : Nat) (v : Value) (P : Pu) : Prop where
  at_ : RPushAt w b q v P.l P.i P.old P.fin
  ok : P.Ok n
theorem RPuM.else (M : RPuM w b q n v U) {t : List Nat} (u : Else t w w') (h1 : b ∉ t) (h2 : Away v t) : RPuM w' b q n v U := ⟨M.at_.else u h1 h2, M.ok⟩
theorem RPuM.up (M : RPuM w b q n v U) (u : Up w w') : RPuM w' b q n v U := ⟨M.at_.up u, M.ok⟩
theorem rpopGot (M : RPoM w b q n v P) : Calls Tryz.prog 78 #[.pointer (some ⟨b, 0, none⟩)] w fun e w' => ∃ o, e = .returned o ∧ Ints w' o (I (if P.fin then P.l else [])) ∧ Fresh w o ∧ Up w w' :=
  rgot_any M.at_ (Nat.le_trans M.ok.len M.ok.m8)
theorem rapart_own (A : Apart b p g q v) (E : REnv w p g q hd ln n xs c) : q ∉ [b, p, g] := by simp [A.bq.symm, E.np, E.ng]
theorem rpoStep (E : REnv w p g q hd ln n xs c) (A : Apart b p g q v) (M : RPoM w b q n v P) (hf : P.fin = false) :
    Calls Tryz.prog 77 #[.pointer (some ⟨b, 0, none⟩)] w fun e w' => e = .returned (.bool true) ∧ ∃ v', Near w v v' ∧ RAcc w p g q hd ln n c (P.xs hd xs) (b :: v.ownBlock.toList) (fun w' => RPoM w' b q n v' (P.go n hd ln xs)) w' := by
  have K := M.ok
  have KG := K.go (hd := hd) (ln := ln) (xs := xs) E.ok E.n0
  have H := M.at_
  have hq := rapart_own A E
  obtain ⟨most, i, deep, old, l, fin⟩ := P
  dsimp only at hf
  subst hf
  have hl8 : l.length ≤ 8 := Nat.le_trans K.len K.m8
  rcases (show i = 0 ∨ i = 1 ∨ i = 2 by have := K.i2; dsimp only at this; omega) with rfl | rfl | rfl
  · have ex : Po.xs hd xs ⟨most, 0, deep, old, l, false⟩ = xs := by unfold Po.xs; rw [if_neg (by simp)]
    rw [ex]
    by_cases ht : topN n (xs.getD hd 0) = -1
    · have eg : Po.go n hd ln xs ⟨most, 0, deep, old, l, false⟩ = ⟨most, 0, deep, xs.getD hd 0, [], true⟩ := by unfold Po.go; rw [if_pos rfl, if_pos ht]
      rw [eg] at KG ⊢
      refine (rpop_none E H A ht).mono ?_
      rintro e w' ⟨rfl, P2, M2, E2⟩
      exact ⟨rfl, _, .inr (.inl rfl), E.went M2 E2 hq E.ok rfl, ⟨P2, KG⟩, own_wide E2 _⟩
    · obtain ⟨t, ht2⟩ : ∃ t : Nat, topN n (xs.getD hd 0) = t := ⟨_, (topN_nat (E.ok hd).1 E.n0 ht).1⟩
      have eg : Po.go n hd ln xs ⟨most, 0, deep, old, l, false⟩ = ⟨most, 1, deep, xs.getD hd 0, [t], false⟩ := by unfold Po.go; rw [if_pos rfl, if_neg ht, ht2]; rfl
      rw [eg] at KG ⊢
      refine (rpop_head E H A ht2).mono ?_
      rintro e w' ⟨rfl, ⟨r, cap, hr, P2⟩, M2, E2⟩
      exact ⟨rfl, _, .inr (.inr ⟨r, rfl, hr⟩), E.went M2 E2 hq E.ok rfl, ⟨P2, KG⟩, own_wide E2 _⟩
  · have ex : Po.xs hd xs ⟨most, 1, deep, old, l, false⟩ = xs := by unfold Po.xs; rw [if_neg (by simp)]
    rw [ex]
    have hne : l ≠ [] := K.ne (by simp)
    by_cases hb : belowN n (xs.getD (ln + l.getD (l.length - 1) 0) 0) = -1
    · have eg : Po.go n hd ln xs ⟨most, 1, deep, old, l, false⟩ = ⟨most, 2, -1, old, l, false⟩ := by
        unfold Po.go Po.last; dsimp only; rw [if_neg (by decide), if_pos rfl, if_pos (.inl hb), hb]
      rw [eg] at KG ⊢
      refine (rpop_stopA E H A hne K.lt hl8 hb).mono ?_
      rintro e w' ⟨rfl, P2, M2, E2⟩
      exact ⟨rfl, _, .inl rfl, E.went M2 E2 hq E.ok rfl, ⟨P2, KG⟩, own_wide E2 _⟩
    · obtain ⟨d, hd2⟩ : ∃ d : Nat, belowN n (xs.getD (ln + l.getD (l.length - 1) 0) 0) = d := ⟨_, (belowN_nat (E.ok _).1 E.n0 hb).1⟩
      by_cases hm : l.length = most
      · have eg : Po.go n hd ln xs ⟨most, 1, deep, old, l, false⟩ = ⟨most, 2, d, old, l, false⟩ := by
          unfold Po.go Po.last; dsimp only; rw [if_neg (by decide), if_pos rfl, if_pos (.inr hm), hd2]
        rw [eg] at KG ⊢
        refine (rpop_stopB E H A hne K.lt hl8 hm hd2).mono ?_
        rintro e w' ⟨rfl, P2, M2, E2⟩
        exact ⟨rfl, _, .inl rfl, E.went M2 E2 hq E.ok rfl, ⟨P2, KG⟩, own_wide E2 _⟩
      · have eg : Po.go n hd ln xs ⟨most, 1, deep, old, l, false⟩ = ⟨most, 1, d, old, l ++ [d], false⟩ := by
          unfold Po.go Po.last; dsimp only; rw [if_neg (by decide), if_pos rfl, if_neg (fun h => h.elim hb hm), hd2]; rfl
        rw [eg] at KG ⊢
        obtain ⟨r0, c0, hv, _⟩ := H.row.get hne
        subst hv
        have h9 := K.len
        dsimp only at h9
        refine (rpop_more E H A hne K.lt hl8 (show l.length < most by omega) hd2).mono ?_
        rintro e w' ⟨rfl, ⟨r, cap, hr, P2⟩, M2, E2⟩
        have E3 := E2 r0 rfl
        have hq3 : q ∉ [b, r0, p, g] := by have := A.vq; simp [Value.ownBlock] at this; simp [A.bq.symm, E.np, E.ng]; exact fun h => this h.symm
        refine ⟨rfl, .slice (some ⟨r, 0, none⟩) (l.length + 1) cap, ?_, E.went M2 E3 hq3 E.ok rfl, ⟨?_, KG⟩, E3⟩
        · rcases hr with h | h
          · exact .inl h.symm
          · exact .inr (.inr ⟨r, rfl, h⟩)
        · exact P2
  · have d2 := K.d2 rfl
    dsimp only at d2
    have o0 := K.o0
    have o1 := K.o1
    dsimp only at o0 o1
    by_cases hc : xs.getD hd 0 = old
    · have ex : Po.xs hd xs ⟨most, 2, deep, old, l, false⟩ = xs.set hd (nextW old deep) := by unfold Po.xs; rw [if_pos ⟨rfl, hc⟩]
      have eg : Po.go n hd ln xs ⟨most, 2, deep, old, l, false⟩ = ⟨most, 0, deep, old, l, true⟩ := by
        unfold Po.go; dsimp only; rw [if_neg (by decide), if_neg (by decide), decide_eq_true hc]
      rw [ex]
      rw [eg] at KG ⊢
      have hw := nextW_in old deep
      refine (rpop_yes E H A o0 o1 d2.1 d2.2 hc).mono ?_
      rintro e w' ⟨rfl, P2, M2, E2⟩
      exact ⟨rfl, _, .inl rfl, E.went M2 E2 hq (ok_set E.ok hw.1 hw.2) List.length_set, ⟨P2, KG⟩, own_wide E2 _⟩
    · have ex : Po.xs hd xs ⟨most, 2, deep, old, l, false⟩ = xs := by unfold Po.xs; rw [if_neg (fun h => hc h.2)]
      have eg : Po.go n hd ln xs ⟨most, 2, deep, old, l, false⟩ = ⟨most, 0, deep, old, l, false⟩ := by
        unfold Po.go; dsimp only; rw [if_neg (by decide), if_neg (by decide), decide_eq_false hc]
      rw [ex]
      rw [eg] at KG ⊢
      refine (rpop_no E H A o0 o1 d2.1 d2.2 hc).mono ?_
      rintro e w' ⟨rfl, P2, M2, E2⟩
      exact ⟨rfl, _, .inl rfl, E.went M2 E2 hq E.ok rfl, ⟨P2, KG⟩, own_wide E2 _⟩
theorem rpuStep (E : REnv w p g q hd ln n xs c) (A : Apart b p g q v) (M : RPuM w b q n v U) (hf : U.fin = false) :
    Calls Tryz.prog 47 #[.pointer (some ⟨b, 0, none⟩)] w fun e w' => e = .returned (.bool true) ∧ RAcc w p g q hd ln n c (U.xs n hd ln xs) (b :: v.ownBlock.toList) (fun w' => RPuM w' b q n v (U.go hd xs)) w' := by
  have K := M.ok
  have KG := K.go (hd := hd) (xs := xs) E.ok
  have H := M.at_
  have hq := rapart_own A E
  have n0 := E.n0
  have n1 := E.n1
  obtain ⟨l, i, old, fin⟩ := U
  obtain ⟨hne, hlt, hl, htop, o0, o1⟩ := K
  dsimp only at hf hne hlt hl htop o0 o1
  subst hf
  have hlp := List.length_pos_iff.2 hne
  dsimp only at H
  by_cases h1 : i + 1 < l.length
  · have m1 := hlt _ (show l.getD (i + 1) 0 ∈ l by simp [List.getD, h1])
    have eg : Pu.go hd xs ⟨l, i, old, false⟩ = ⟨l, i + 1, old, false⟩ := by unfold Pu.go; dsimp only; rw [if_pos h1]
    have ex : Pu.xs n hd ln xs ⟨l, i, old, false⟩ = xs.set (ln + l.getD i 0) ((l.getD (i + 1) 0 : Nat) + 1) := by unfold Pu.xs; dsimp only; rw [if_pos h1]
    rw [ex]
    rw [eg] at KG ⊢
    refine (rpush_link E H A hne hlt hl h1).mono ?_
    rintro e w' ⟨rfl, P2, M2, E2⟩
    exact ⟨rfl, E.went M2 E2 hq (ok_set E.ok (by omega) (by omega)) List.length_set, ⟨P2, KG⟩, own_wide E2 _⟩
  · by_cases h2 : i + 1 = l.length
    · have eg : Pu.go hd xs ⟨l, i, old, false⟩ = ⟨l, i + 1, xs.getD hd 0, false⟩ := by unfold Pu.go; dsimp only; rw [if_neg h1, if_pos h2]
      have ex : Pu.xs n hd ln xs ⟨l, i, old, false⟩ = xs := by unfold Pu.xs; dsimp only; rw [if_neg h1, if_pos h2]
      rw [ex]
      rw [eg] at KG ⊢
      refine (rpush_load E H A hne hlt hl h2).mono ?_
      rintro e w' ⟨rfl, P2, M2, E2⟩
      exact ⟨rfl, E.went M2 E2 hq E.ok rfl, ⟨P2, KG⟩, own_wide E2 _⟩
    · by_cases h3 : i = l.length
      · have t := topN_in (n := n) o0 n0
        have eg : Pu.go hd xs ⟨l, i, old, false⟩ = ⟨l, i + 1, old, false⟩ := by unfold Pu.go; dsimp only; rw [if_neg h1, if_neg h2, if_pos h3]
        have ex : Pu.xs n hd ln xs ⟨l, i, old, false⟩ = xs.set (ln + l.getD (l.length - 1) 0) (topN n old + 1) := by unfold Pu.xs; dsimp only; rw [if_neg h1, if_neg h2, if_pos h3]
        rw [ex]
        rw [eg] at KG ⊢
        refine (rpush_last E H A hne hlt hl h3 o0 o1).mono ?_
        rintro e w' ⟨rfl, P2, M2, E2⟩
        exact ⟨rfl, E.went M2 E2 hq (ok_set E.ok (by omega) (by omega)) List.length_set, ⟨P2, KG⟩, own_wide E2 _⟩
      · by_cases hc : xs.getD hd 0 = old
        · have eg : Pu.go hd xs ⟨l, i, old, false⟩ = ⟨l, l.length - 1, old, true⟩ := by unfold Pu.go; dsimp only; rw [if_neg h1, if_neg h2, if_neg h3, decide_eq_true hc]
          have ex : Pu.xs n hd ln xs ⟨l, i, old, false⟩ = xs.set hd (nextW old (l.getD 0 0 : Nat)) := by unfold Pu.xs; dsimp only; rw [if_neg h1, if_neg h2, if_neg h3, if_pos hc]
          rw [ex]
          rw [eg] at KG ⊢
          have hw := nextW_in old (l.getD 0 0 : Nat)
          refine (rpush_yes E H A hne hlt hl (by omega) o0 o1 hc).mono ?_
          rintro e w' ⟨rfl, P2, M2, E2⟩
          exact ⟨rfl, E.went M2 E2 hq (ok_set E.ok hw.1 hw.2) List.length_set, ⟨P2, KG⟩, own_wide E2 _⟩
        · have eg : Pu.go hd xs ⟨l, i, old, false⟩ = ⟨l, l.length - 1, old, false⟩ := by unfold Pu.go; dsimp only; rw [if_neg h1, if_neg h2, if_neg h3, decide_eq_false hc]
          have ex : Pu.xs n hd ln xs ⟨l, i, old, false⟩ = xs := by unfold Pu.xs; dsimp only; rw [if_neg h1, if_neg h2, if_neg h3, if_neg hc]
          rw [ex]
          rw [eg] at KG ⊢
          refine (rpush_no E H A hne hlt hl (by omega) o0 o1 hc).mono ?_
          rintro e w' ⟨rfl, P2, M2, E2⟩
          exact ⟨rfl, E.went M2 E2 hq E.ok rfl, ⟨P2, KG⟩, own_wide E2 _⟩
theorem rpoNew (m : Int) {most : Nat} (hm : min (max m 1) 8 = most) (n : Nat) :
    Calls Tryz.prog 121 #[.pointer (some ⟨q, 0, none⟩), .int .i64 m] w fun e w' => e = .returned (.pointer (some ⟨w.heap.size, 0, none⟩)) ∧ RPoM w' w.heap.size q n (.slice none 0 0) ⟨most, 0, 0, 0, [], false⟩ ∧ Up w w' := by
  refine (rpop_new m hm).mono ?_
  rintro e w' ⟨rfl, P, U⟩
  exact ⟨rfl, ⟨P, ⟨by dsimp only; omega, by dsimp only; omega, by simp, by simp, by simp, by simp, by simp, by simp, by simp⟩⟩, U⟩
theorem rpuNew (R : Rd w v (I l)) (h0 : l ≠ []) (hlt : ∀ x ∈ l, x < n) (hl : l.length ≤ 8000) :
    Calls Tryz.prog 91 #[.pointer (some ⟨q, 0, none⟩), v] w fun e w' => ∃ b v', e = .returned (.pointer (some ⟨b, 0, none⟩)) ∧ RPuM w' b q n v' ⟨l, 0, 0, false⟩ ∧ w.heap.size ≤ b ∧ Fresh w v' ∧ Up w w' := by
  refine (rpush_new R h0 hl).mono ?_
  rintro e w' ⟨b, v', rfl, P, hb, hr, U⟩
  exact ⟨b, v', rfl, ⟨P, ⟨h0, hlt, by dsimp only; omega, by dsimp only; omega, by simp, by simp⟩⟩, hb, hr, U⟩
end
end Go.Proofs.YtalglhgngedjoaaGreat
