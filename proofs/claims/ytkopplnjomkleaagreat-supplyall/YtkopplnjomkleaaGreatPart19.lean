/-
  Texts beneath SupplyAll, part 19: RefPop, RefPop2.
-/
import Derived.Test.YtkopplnjomkleaaGreatPart18
import Derived.Deep.RegionLaw
/-
  The reference's stack: one Step of a Pop, way by way.
-/
namespace Go.Proofs.YtkopplnjomkleaaGreat
open Go.RowKit
open W64
set_option maxRecDepth 100000
section
variable {w w' : World} {p g q hd ln n b i most : Nat} {xs : List Int} {c : Int} {v v' : Value} {l l' : List Nat} {old deep : Int}
theorem RPopAt.at_ {d : Bool} (P : RPopAt w b q v l most i deep old d) (j : Nat) : RPopAt (w.setCell ⟨b, 2, none⟩ (.int .i64 j)) b q v l most j deep old d := ⟨P.top.set 2 _, row_self P.row P.away _, P.away⟩
theorem RPopAt.below {d : Bool} (P : RPopAt w b q v l most i deep old d) (x : Int) : RPopAt (w.setCell ⟨b, 3, none⟩ (.int .i64 x)) b q v l most i x old d := ⟨P.top.set 3 _, row_self P.row P.away _, P.away⟩
theorem RPopAt.seen {d : Bool} (P : RPopAt w b q v l most i deep old d) (o : Int) : RPopAt (w.setCell ⟨b, 4, none⟩ (.int .u64 o)) b q v l most i deep o d := ⟨P.top.set 4 _, row_self P.row P.away _, P.away⟩
theorem RPopAt.fin {d : Bool} (P : RPopAt w b q v l most i deep old d) (e : Bool) : RPopAt (w.setCell ⟨b, 6, none⟩ (.bool e)) b q v l most i deep old e := ⟨P.top.set 6 _, row_self P.row P.away _, P.away⟩
theorem RPopAt.items {d : Bool} (P : RPopAt w b q v l most i deep old d) (r : Ints w v' (I l')) (a : v'.ownBlock ≠ some b) : RPopAt (w.setCell ⟨b, 5, none⟩ v') b q v' l' most i deep old d := ⟨P.top.set 5 _, row_self r a _, a⟩
theorem REnv.self (E : REnv w p g q hd ln n xs c) (h1 : b ≠ p) (h2 : b ≠ g) (h3 : b ≠ q) (i : Nat) (u : Value) : REnv (w.setCell ⟨b, i, none⟩ u) p g q hd ln n xs c :=
  E.else (x := [b]) ((Else.refl [b] w).set (p := ⟨b, i, none⟩) (.inl (by simp)) u) (by simp [h1.symm]) (by simp [h2.symm]) (by simp [h3.symm])
set_option maxHeartbeats 4000000 in
theorem rpop_none (E : REnv w p g q hd ln n xs c) (P : RPopAt w b q v l most 0 deep old false) (A : Apart b p g q v) (ht : topN n (xs.getD hd 0) = -1) :
    Calls Tryz.prog 88 #[.pointer (some ⟨b, 0, none⟩)] w fun e w' => e = .returned (.bool true) ∧ RPopAt w' b q (.slice none 0 0) [] most 0 deep (xs.getD hd 0) true ∧ Ref w' p g xs (wrap64 (c + 1)) ∧ Else [b, p, g] w w' := by
  have hhx := E.hh
  have okx := E.ok hd
  obtain ⟨x, hx⟩ : ∃ x, xs.getD hd 0 = x := ⟨_, rfl⟩
  rw [hx] at okx ht ⊢
  have HX := Lib.hid hx
  have HT := Lib.hid ht
  clear hx ht
  have hb := A.b2
  have hbq := A.bq
  have hq : q ∉ [p, g] := by simp [E.np, E.ng]
  obtain ⟨c0, c1, c2, c3, c4, c5, c6⟩ := P.cells
  obtain ⟨k0, k1, k2, k3⟩ := E.cells
  have HP := Lib.hid P
  have HE := Lib.hid E
  have HA := Lib.hid A
  clear P E A
  go_enter Tryz.func88, Tryz.ntmps88
  go_upto_region 8 with fail
  go_region_held3 (fun w' => w'.cell? ⟨q, 0, none⟩ = some (.pointer (some ⟨p, 0, none⟩)) ∧ w'.cell? ⟨q, 1, none⟩ = some (.int .i64 hd)) ((first | exact ⟨k0, k1⟩ | exact ⟨E1.kept k0 hq, E1.kept k1 hq⟩ | exact ⟨kept_set (ad_ne hbq) (E1.kept k0 hq), kept_set (ad_ne hbq) (E1.kept k1 hq)⟩))
    (first
      | (go_at_call 85; refine (rload_to (k := hd) rfl (HE.out.mem.up (up_drew w)) hhx HX.out).mono ?_; rintro e w1 ⟨rfl, M1, E1⟩; have d3 := E1.kept (p := ⟨b, 4, none⟩) c4 hb; have g3 := ((HP.out.up (up_drew w)).else E1 HA.out.b2 HA.out.v2).top.frozen 4))
  have E2 := Lib.hid (else_self (b := b) (o := 4) (u := .int .u64 x) (((Else.of_up (up_drew w)).trans E1).wide b) (by simp))
  have P1 := Lib.hid (((HP.out.up (up_drew w)).else E1 HA.out.b2 HA.out.v2).seen x)
  have EE := Lib.hid ((HE.out.turn M1 ((Else.of_up (up_drew w)).trans E1) hq HE.out.ok rfl).self HA.out.bp HA.out.bg HA.out.bq 4 (.int .u64 x))
  clear M1 E1 c0 c1 c2 c3 c4 c5 c6 k0 k1 k2 k3 d3 g3
  go_upto_region 9 with fail
  generalize w1.setCell ⟨b, 4, none⟩ (.int .u64 x) = w2 at *
  have c5 := P1.out.cells.2.2.2.2.2.1
  have f5 := P1.out.top.frozen 5
  go_upto_region 10 with fail
  have P2 := Lib.hid (P1.out.items (l' := []) (Ints.nil _) (by simp [Value.ownBlock]))
  have EF := Lib.hid (EE.out.self HA.out.bp HA.out.bg HA.out.bq 5 (.slice none 0 0))
  have E3 := Lib.hid (else_self (b := b) (o := 5) (u := .slice none 0 0) E2.out (by simp))
  clear c5 f5 P1 EE E2
  generalize w2.setCell ⟨b, 5, none⟩ (.slice none 0 0) = w3 at *
  obtain ⟨c0, c1, c2, c3, c4, c5, c6⟩ := P2.out.cells
  go_upto_region 12 with (first
    | (go_at_call 56; refine (rtop_to EF.out okx.1 okx.2 HT.out).mono ?_; rintro e w4 ⟨rfl, U4⟩))
  have P4 := Lib.hid (P2.out.up U4)
  have EG := Lib.hid (EF.out.up U4)
  have E4 := Lib.hid (E3.out.up U4)
  clear c0 c1 c2 c3 c4 c5 c6 U4
  have c6 := P4.out.cells.2.2.2.2.2.2
  have f6 := P4.out.top.frozen 6
  go_wp2_with fail
  go_ret
  exact ⟨rfl, P4.out.fin true, EG.out.mem.self HA.out.bp HA.out.bg _ _, else_self E4.out (by simp)⟩
set_option maxHeartbeats 4000000 in
theorem rpop_head (E : REnv w p g q hd ln n xs c) (P : RPopAt w b q v l most 0 deep old false) (A : Apart b p g q v) {t : Nat} (ht : topN n (xs.getD hd 0) = t) :
    Calls Tryz.prog 88 #[.pointer (some ⟨b, 0, none⟩)] w fun e w' => e = .returned (.bool true) ∧ (∃ r cap, w.heap.size ≤ r ∧ RPopAt w' b q (.slice (some ⟨r, 0, none⟩) 1 cap) [t] most 1 deep (xs.getD hd 0) false) ∧ Ref w' p g xs (wrap64 (c + 1)) ∧ Else [b, p, g] w w' := by
  have hhx := E.hh
  have okx := E.ok hd
  obtain ⟨x, hx⟩ : ∃ x, xs.getD hd 0 = x := ⟨_, rfl⟩
  rw [hx] at okx ht ⊢
  have HX := Lib.hid hx
  have HT := Lib.hid ht
  clear hx ht
  have i0 : (0 : Int) ≤ (t : Int) := Int.natCast_nonneg _
  have i1 : ¬ (t : Int) < 0 := by omega
  have hb := A.b2
  have hbq := A.bq
  have hq : q ∉ [p, g] := by simp [E.np, E.ng]
  obtain ⟨c0, c1, c2, c3, c4, c5, c6⟩ := P.cells
  obtain ⟨k0, k1, k2, k3⟩ := E.cells
  have HP := Lib.hid P
  have HE := Lib.hid E
  have HA := Lib.hid A
  clear P E A
  go_enter Tryz.func88, Tryz.ntmps88
  go_upto_region 8 with fail
  go_region_held3 (fun w' => w'.cell? ⟨q, 0, none⟩ = some (.pointer (some ⟨p, 0, none⟩)) ∧ w'.cell? ⟨q, 1, none⟩ = some (.int .i64 hd)) ((first | exact ⟨k0, k1⟩ | exact ⟨E1.kept k0 hq, E1.kept k1 hq⟩ | exact ⟨kept_set (ad_ne hbq) (E1.kept k0 hq), kept_set (ad_ne hbq) (E1.kept k1 hq)⟩))
    (first
      | (go_at_call 85; refine (rload_to (k := hd) rfl (HE.out.mem.up (up_drew w)) hhx HX.out).mono ?_; rintro e w1 ⟨rfl, M1, E1⟩; have d3 := E1.kept (p := ⟨b, 4, none⟩) c4 hb; have g3 := ((HP.out.up (up_drew w)).else E1 HA.out.b2 HA.out.v2).top.frozen 4))
  have E2 := Lib.hid (else_self (b := b) (o := 4) (u := .int .u64 x) (((Else.of_up (up_drew w)).trans E1).wide b) (by simp))
  have P1 := Lib.hid (((HP.out.up (up_drew w)).else E1 HA.out.b2 HA.out.v2).seen x)
  have EE := Lib.hid ((HE.out.turn M1 ((Else.of_up (up_drew w)).trans E1) hq HE.out.ok rfl).self HA.out.bp HA.out.bg HA.out.bq 4 (.int .u64 x))
  clear M1 E1 c0 c1 c2 c3 c4 c5 c6 k0 k1 k2 k3 d3 g3
  go_upto_region 9 with fail
  generalize w1.setCell ⟨b, 4, none⟩ (.int .u64 x) = w2 at *
  have c5 := P1.out.cells.2.2.2.2.2.1
  have f5 := P1.out.top.frozen 5
  go_upto_region 10 with fail
  have P2 := Lib.hid (P1.out.items (l' := []) (Ints.nil _) (by simp [Value.ownBlock]))
  have EF := Lib.hid (EE.out.self HA.out.bp HA.out.bg HA.out.bq 5 (.slice none 0 0))
  have E3 := Lib.hid (else_self (b := b) (o := 5) (u := .slice none 0 0) E2.out (by simp))
  clear c5 f5 P1 EE E2
  generalize w2.setCell ⟨b, 5, none⟩ (.slice none 0 0) = w3 at *
  obtain ⟨c0, c1, c2, c3, c4, c5, c6⟩ := P2.out.cells
  go_upto_region 13 with (first
    | (go_at_call 56; refine (rtop_to EF.out okx.1 okx.2 HT.out).mono ?_; rintro e w4 ⟨rfl, U4⟩))
  have P4 := Lib.hid (P2.out.up U4)
  have EG := Lib.hid (EF.out.up U4)
  have E4 := Lib.hid (E3.out.up U4)
  clear c0 c1 c2 c3 c4 c5 c6 U4
  have c5 := P4.out.cells.2.2.2.2.2.1
  go_wp2_with (at_builtin; refine wpList_app (v := .slice none 0 0) rfl _ _ rfl rfl rfl (Ints.nil _) (rd_one _ (t : Int)) (by simp) ?_; intro v5 w5 J5 G5 A5; obtain ⟨r5, k5, e5, _⟩ := Ints.get (l := [t]) J5 (by simp); replace e5 : v5 = .slice (some ⟨r5, 0, none⟩) 1 k5 := e5; subst e5; have HJ5 := Lib.hid J5; have HU5 := Lib.hid (up_app (Up.alloc w4 _) G5 (fresh_nil _)); have HF5 := Lib.hid (fresh_app (fresh_nil w4) (Up.alloc w4 (.cells #[.int .i64 (t : Int)] 3)).size A5); have P5 := Lib.hid (P4.out.up HU5.out); have y5 := P5.out.cells.2.2.2.2.2.1; have g5 := P5.out.top.frozen 5; have y2 := (P5.out.top.set 5 (.slice (some ⟨r5, 0, none⟩) 1 k5)).cell (i := 2) rfl; have g2 := (P5.out.top.set 5 (.slice (some ⟨r5, 0, none⟩) 1 k5)).frozen 2; clear J5 G5 A5)
  go_ret
  have hr5 := HF5.out r5 rfl
  have z4 := E4.out.size
  have z5 := P4.out.top.lt
  have E6 := else_self (b := b) (o := 2) (u := .int .i64 1) (else_self (b := b) (o := 5) (u := .slice (some ⟨r5, 0, none⟩) 1 k5) (E4.out.up HU5.out) (by simp)) (by simp)
  exact ⟨rfl, ⟨r5, k5, by omega, (P5.out.items (l' := [t]) HJ5.out (by simp [Value.ownBlock]; omega)).at_ 1⟩, ((EG.out.up HU5.out).mem.self HA.out.bp HA.out.bg _ _).self HA.out.bp HA.out.bg _ _, E6⟩
end
end Go.Proofs.YtkopplnjomkleaaGreat

/-
  The reference's stack: one Step of a Pop, way by way.
-/
namespace Go.Proofs.YtkopplnjomkleaaGreat
open Go.RowKit
open W64
set_option maxRecDepth 100000
section
variable {w w' : World} {p g q hd ln n b i most : Nat} {xs : List Int} {c : Int} {v v' : Value} {l l' : List Nat} {old deep : Int}
theorem rmore_end {w w4 w5 : World} {p g q b most r cap K N d : Nat} {xs : List Int} {c : Int} {l : List Nat} {deep old : Int} {A5 : Option Addr} {c5 : Nat} {o : Obj}
    (P : RPopAt w4 b q (.slice (some ⟨r, 0, none⟩) l.length cap) l most 1 deep old false) (M : Ref w4 p g xs c) (E : Else [b, p, g] w w4) (A : Apart b p g q (.slice (some ⟨r, 0, none⟩) l.length cap)) (hK : K = l.length)
    (J : Ints w5 (.slice A5 N c5) (I l ++ [(d : Int)])) (G : (w4.drew.alloc o).grownBy w5 (Value.slice (some ⟨r, 0, none⟩) K cap).ownBlock) (hat : (Value.slice A5 N c5).ownBlock = (Value.slice (some ⟨r, 0, none⟩) K cap).ownBlock ∨ (Value.slice A5 N c5).ownBlock = some (w4.drew.alloc o).heap.size) :
    (∃ r' cap', ((Value.slice (some ⟨r, 0, none⟩) l.length cap).ownBlock = some r' ∨ w.heap.size ≤ r') ∧ RPopAt (w5.setCell ⟨b, 5, none⟩ (.slice A5 N c5)) b q (.slice (some ⟨r', 0, none⟩) (l.length + 1) cap') (l ++ [d]) most 1 deep old false) ∧
    Ref (w5.setCell ⟨b, 5, none⟩ (.slice A5 N c5)) p g xs c ∧ ∀ r', (Value.slice (some ⟨r, 0, none⟩) l.length cap).ownBlock = some r' → Else [b, r', p, g] w (w5.setCell ⟨b, 5, none⟩ (.slice A5 N c5)) := by
  subst hK
  have U : Up w4 (w4.drew.alloc o) := (up_drew w4).then_alloc o
  have hbw := P.top.lt
  have hrb : r ≠ b := fun e => P.away (by rw [e]; rfl)
  have EG := Else.of_grown G
  have J2 : Ints w5 (.slice A5 N c5) (I (l ++ [d])) := by rw [show I (l ++ [d]) = I l ++ I [d] by simp [I]]; exact J
  obtain ⟨r5, k5, e5, _⟩ := J2.get (by simp)
  injection e5 with e1 e2 e3
  subst e1 e2 e3
  have zz : (w4.drew.alloc o).heap.size = w4.heap.size + 1 := by simp
  have hgb : r5 ≠ b := by
    rcases hat with h | h
    · simp [Value.ownBlock] at h; omega
    · simp [Value.ownBlock] at h; omega
  have top := EG.whole (P.top.up U) (by simp [Value.ownBlock]; exact fun e => hrb e.symm)
  have M2 := (M.up U).else EG (by simp [Value.ownBlock]; exact fun e => A.vp (by simp [Value.ownBlock, e])) (by simp [Value.ownBlock]; exact fun e => A.vg (by simp [Value.ownBlock, e]))
  have hlen : (l ++ [d]).length = l.length + 1 := by simp
  rw [hlen] at J2 ⊢
  refine ⟨⟨r5, c5, ?_, ⟨top.set 5 _, row_self J2 (by simp [Value.ownBlock]; exact hgb) _, by simp [Value.ownBlock]; exact hgb⟩⟩, M2.self A.bp A.bg _ _, fun r' hr' => ?_⟩
  · rcases hat with h | h
    · exact .inl h.symm
    · have := E.size; simp [Value.ownBlock] at h; exact .inr (by omega)
  · simp [Value.ownBlock] at hr'; subst hr'
    have E1 : Else [b, r, p, g] w w4 := E.more (by intro k hk; simp at hk ⊢; rcases hk with h | h | h <;> simp [h])
    have E2 : Else [b, r, p, g] (w4.drew.alloc o) w5 := EG.more (by intro k hk; simp [Value.ownBlock] at hk; simp [hk])
    exact else_self ((E1.up U).trans E2) (by simp)
set_option maxHeartbeats 4000000 in
theorem rpop_stopA (E : REnv w p g q hd ln n xs c) (P : RPopAt w b q v l most 1 deep old false) (A : Apart b p g q v) (hl0 : l ≠ []) (hn : ∀ x ∈ l, x < n) (hl : l.length ≤ 8) (hd' : belowN n (xs.getD (ln + l.getD (l.length - 1) 0) 0) = -1) :
    Calls Tryz.prog 88 #[.pointer (some ⟨b, 0, none⟩)] w fun e w' => e = .returned (.bool true) ∧ RPopAt w' b q v l most 2 (-1) old false ∧ Ref w' p g xs (wrap64 (c + 1)) ∧ Else [b, p, g] w w' := by
  obtain ⟨r, cap, rfl, ds⟩ := P.row.get hl0
  have lp := List.length_pos_iff.2 hl0
  have d0 := ds (l.length - 1) (by omega)
  clear ds
  have m0 := hn _ (Stk.getD_mem (show l.length - 1 < l.length by omega))
  generalize l.getD (l.length - 1) 0 = x at *
  have n1 := E.n1
  have hlx := E.hl
  have htx := E.top
  have okx := E.ok (ln + x)
  obtain ⟨y, hy⟩ : ∃ y, xs.getD (ln + x) 0 = y := ⟨_, rfl⟩
  rw [hy] at okx hd'
  have HY := Lib.hid hy
  have HD := Lib.hid hd'
  obtain ⟨K, hK⟩ : ∃ K : Nat, K = l.length := ⟨_, rfl⟩
  have HKL := Lib.hid hK
  rw [← hK] at lp hl d0
  obtain ⟨k, hk⟩ : ∃ k, K - 1 = k := ⟨_, rfl⟩
  rw [hk] at d0
  have e9 : (K : Int) - 1 = (k : Int) := by omega
  have j1 : (k : Int) < (K : Int) := by omega
  have j2 : (0 : Int) ≤ (k : Int) := Int.natCast_nonneg _
  have HLT := Lib.hid (show ln + x < xs.length by omega)
  have HAD := Lib.hid (show (ln : Int) + (x : Int) = ((ln + x : Nat) : Int) by omega)
  have HK8 := Lib.hid hl
  have s9 : ln + x ≤ 8400000 ∧ (-9223372036854775808 ≤ (K : Int) - 1 ∧ (K : Int) - 1 ≤ 9223372036854775807) ∧ (K : Int) - 1 < 9223372036854775808 := by omega
  obtain ⟨z4, z5, z6⟩ := s9
  obtain ⟨s3, s4⟩ := wrapS (a := ln) (b := x) z4
  have sK := (IntWalk.i64_in ((K : Int) - 1) z5).trans e9
  have sK2 := (wrap64_in z5.1 z6).trans e9
  have hr : r ∉ [p, g] := fun hk => A.v2 r hk rfl
  have hbr : b ≠ r := fun e => P.away (by rw [e]; rfl)
  clear z4 z5 z6 e9 hk hl lp hy hd' hn hl0 hK
  have hb := A.b2
  have hbq := A.bq
  have hq : q ∉ [p, g] := by simp [E.np, E.ng]
  obtain ⟨c0, c1, c2, c3, c4, c5, c6⟩ := P.cells
  obtain ⟨k0, k1, k2, k3⟩ := E.cells
  have HP := Lib.hid P
  have HE := Lib.hid E
  have HA := Lib.hid A
  clear P E A
  go_enter Tryz.func88, Tryz.ntmps88
  rw [← HKL.out] at c5
  go_upto_region 15 with fail
  go_region_held3 (fun w' => w'.cell? ⟨b, 5, none⟩ = some (.slice (some ⟨r, 0, none⟩) K cap) ∧ w'.cell? ⟨r, k, none⟩ = some (.int .i64 x) ∧ w'.cell? ⟨q, 0, none⟩ = some (.pointer (some ⟨p, 0, none⟩)) ∧ w'.cell? ⟨q, 2, none⟩ = some (.int .i64 ln)) ((first | exact ⟨c5, d0, k0, k2⟩ | exact ⟨E1.kept c5 hb, E1.kept d0 hr, E1.kept k0 hq, E1.kept k2 hq⟩ | exact ⟨kept_set (off_ne (by decide)) (E1.kept c5 hb), kept_set (ad_ne hbr) (E1.kept d0 hr), kept_set (ad_ne hbq) (E1.kept k0 hq), kept_set (ad_ne hbq) (E1.kept k2 hq)⟩))
    (first
      | (go_at_call 85; refine (rload_to (k := ln + x) HAD.out (HE.out.mem.up (up_drew w)) HLT.out HY.out).mono ?_; rintro e w1 ⟨rfl, M1, E1⟩; have EE := Lib.hid (HE.out.turn M1 ((Else.of_up (up_drew w)).trans E1) hq HE.out.ok rfl); have d3 := E1.kept (p := ⟨b, 3, none⟩) c3 hb; have g3 := ((HP.out.up (up_drew w)).else E1 HA.out.b2 HA.out.v2).top.frozen 3)
      | (go_at_call 57; refine (rbelow_to EE.out okx.1 okx.2 HD.out).mono ?_; rintro e w9 ⟨rfl, rfl⟩))
  have E2 := Lib.hid (else_self (b := b) (o := 3) (u := .int .i64 (-1)) (((Else.of_up (up_drew w)).trans E1).wide b) (by simp))
  have P1 := Lib.hid (((HP.out.up (up_drew w)).else E1 HA.out.b2 HA.out.v2).below (-1))
  have EF := Lib.hid (EE.out.self HA.out.bp HA.out.bg HA.out.bq 3 (.int .i64 (-1)))
  clear M1 E1 EE c0 c1 c2 c3 c4 c5 c6 k0 k1 k2 k3 d3 g3 d0
  go_upto_region 16 with fail
  generalize w1.setCell ⟨b, 3, none⟩ (.int .i64 (-1)) = w2 at *
  obtain ⟨c0, c1, c2, c3, c4, c5, c6⟩ := P1.out.cells
  rw [← HKL.out] at c5
  go_quiet (fail)
  replace P1 := Lib.hid (P1.out.up (Up.drewN w2 nq))
  replace EF := Lib.hid (EF.out.up (Up.drewN w2 nq))
  replace E2 := Lib.hid (E2.out.up (Up.drewN w2 nq))
  clear c0 c1 c2 c3 c4 c5 c6
  go_upto_region 18 with fail
  generalize w2.drewN nq = w4 at *
  have c2 := P1.out.cells.2.2.1
  have f2 := P1.out.top.frozen 2
  go_wp2_with fail
  go_ret
  exact ⟨rfl, P1.out.at_ 2, EF.out.mem.self HA.out.bp HA.out.bg _ _, else_self E2.out (by simp)⟩
set_option maxHeartbeats 4000000 in
theorem rpop_stopB (E : REnv w p g q hd ln n xs c) (P : RPopAt w b q v l most 1 deep old false) (A : Apart b p g q v) (hl0 : l ≠ []) (hn : ∀ x ∈ l, x < n) (hl : l.length ≤ 8) (hm : l.length = most) {d : Nat} (hd' : belowN n (xs.getD (ln + l.getD (l.length - 1) 0) 0) = d) :
    Calls Tryz.prog 88 #[.pointer (some ⟨b, 0, none⟩)] w fun e w' => e = .returned (.bool true) ∧ RPopAt w' b q v l most 2 d old false ∧ Ref w' p g xs (wrap64 (c + 1)) ∧ Else [b, p, g] w w' := by
  obtain ⟨r, cap, rfl, ds⟩ := P.row.get hl0
  have lp := List.length_pos_iff.2 hl0
  have d0 := ds (l.length - 1) (by omega)
  clear ds
  have m0 := hn _ (Stk.getD_mem (show l.length - 1 < l.length by omega))
  generalize l.getD (l.length - 1) 0 = x at *
  have n1 := E.n1
  have hlx := E.hl
  have htx := E.top
  have okx := E.ok (ln + x)
  obtain ⟨y, hy⟩ : ∃ y, xs.getD (ln + x) 0 = y := ⟨_, rfl⟩
  rw [hy] at okx hd'
  have HY := Lib.hid hy
  have HD := Lib.hid hd'
  obtain ⟨K, hK⟩ : ∃ K : Nat, K = l.length := ⟨_, rfl⟩
  have HKL := Lib.hid hK
  rw [← hK] at lp hl d0 hm
  obtain ⟨k, hk⟩ : ∃ k, K - 1 = k := ⟨_, rfl⟩
  rw [hk] at d0
  have e9 : (K : Int) - 1 = (k : Int) := by omega
  have j1 : (k : Int) < (K : Int) := by omega
  have j2 : (0 : Int) ≤ (k : Int) := Int.natCast_nonneg _
  have j3 : (0 : Int) ≤ (d : Int) := Int.natCast_nonneg _
  have j4 : ¬ (K : Int) < (most : Int) := by omega
  have HLT := Lib.hid (show ln + x < xs.length by omega)
  have HAD := Lib.hid (show (ln : Int) + (x : Int) = ((ln + x : Nat) : Int) by omega)
  have HK8 := Lib.hid hl
  have s9 : ln + x ≤ 8400000 ∧ (-9223372036854775808 ≤ (K : Int) - 1 ∧ (K : Int) - 1 ≤ 9223372036854775807) ∧ (K : Int) - 1 < 9223372036854775808 := by omega
  obtain ⟨z4, z5, z6⟩ := s9
  obtain ⟨s3, s4⟩ := wrapS (a := ln) (b := x) z4
  have sK := (IntWalk.i64_in ((K : Int) - 1) z5).trans e9
  have sK2 := (wrap64_in z5.1 z6).trans e9
  have hr : r ∉ [p, g] := fun hk => A.v2 r hk rfl
  have hbr : b ≠ r := fun e => P.away (by rw [e]; rfl)
  clear z4 z5 z6 e9 hk hl lp hy hd' hn hl0 hK hm
  have hb := A.b2
  have hbq := A.bq
  have hq : q ∉ [p, g] := by simp [E.np, E.ng]
  obtain ⟨c0, c1, c2, c3, c4, c5, c6⟩ := P.cells
  obtain ⟨k0, k1, k2, k3⟩ := E.cells
  have HP := Lib.hid P
  have HE := Lib.hid E
  have HA := Lib.hid A
  clear P E A
  go_enter Tryz.func88, Tryz.ntmps88
  rw [← HKL.out] at c5
  go_upto_region 15 with fail
  go_region_held3 (fun w' => w'.cell? ⟨b, 5, none⟩ = some (.slice (some ⟨r, 0, none⟩) K cap) ∧ w'.cell? ⟨r, k, none⟩ = some (.int .i64 x) ∧ w'.cell? ⟨q, 0, none⟩ = some (.pointer (some ⟨p, 0, none⟩)) ∧ w'.cell? ⟨q, 2, none⟩ = some (.int .i64 ln)) ((first | exact ⟨c5, d0, k0, k2⟩ | exact ⟨E1.kept c5 hb, E1.kept d0 hr, E1.kept k0 hq, E1.kept k2 hq⟩ | exact ⟨kept_set (off_ne (by decide)) (E1.kept c5 hb), kept_set (ad_ne hbr) (E1.kept d0 hr), kept_set (ad_ne hbq) (E1.kept k0 hq), kept_set (ad_ne hbq) (E1.kept k2 hq)⟩))
    (first
      | (go_at_call 85; refine (rload_to (k := ln + x) HAD.out (HE.out.mem.up (up_drew w)) HLT.out HY.out).mono ?_; rintro e w1 ⟨rfl, M1, E1⟩; have EE := Lib.hid (HE.out.turn M1 ((Else.of_up (up_drew w)).trans E1) hq HE.out.ok rfl); have d3 := E1.kept (p := ⟨b, 3, none⟩) c3 hb; have g3 := ((HP.out.up (up_drew w)).else E1 HA.out.b2 HA.out.v2).top.frozen 3)
      | (go_at_call 57; refine (rbelow_to EE.out okx.1 okx.2 HD.out).mono ?_; rintro e w9 ⟨rfl, rfl⟩))
  have E2 := Lib.hid (else_self (b := b) (o := 3) (u := .int .i64 (d : Int)) (((Else.of_up (up_drew w)).trans E1).wide b) (by simp))
  have P1 := Lib.hid (((HP.out.up (up_drew w)).else E1 HA.out.b2 HA.out.v2).below (d : Int))
  have EF := Lib.hid (EE.out.self HA.out.bp HA.out.bg HA.out.bq 3 (.int .i64 (d : Int)))
  clear M1 E1 EE c0 c1 c2 c3 c4 c5 c6 k0 k1 k2 k3 d3 g3 d0
  go_upto_region 16 with fail
  generalize w1.setCell ⟨b, 3, none⟩ (.int .i64 (d : Int)) = w2 at *
  obtain ⟨c0, c1, c2, c3, c4, c5, c6⟩ := P1.out.cells
  rw [← HKL.out] at c5
  go_quiet (fail)
  replace P1 := Lib.hid (P1.out.up (Up.drewN w2 nq))
  replace EF := Lib.hid (EF.out.up (Up.drewN w2 nq))
  replace E2 := Lib.hid (E2.out.up (Up.drewN w2 nq))
  clear c0 c1 c2 c3 c4 c5 c6
  go_upto_region 18 with fail
  generalize w2.drewN nq = w4 at *
  have c2 := P1.out.cells.2.2.1
  have f2 := P1.out.top.frozen 2
  go_wp2_with fail
  go_ret
  exact ⟨rfl, P1.out.at_ 2, EF.out.mem.self HA.out.bp HA.out.bg _ _, else_self E2.out (by simp)⟩
set_option maxHeartbeats 4000000 in
theorem rpop_more (E : REnv w p g q hd ln n xs c) (P : RPopAt w b q v l most 1 deep old false) (A : Apart b p g q v) (hl0 : l ≠ []) (hn : ∀ x ∈ l, x < n) (hl : l.length ≤ 8) (hm : l.length < most) {d : Nat} (hd' : belowN n (xs.getD (ln + l.getD (l.length - 1) 0) 0) = d) :
    Calls Tryz.prog 88 #[.pointer (some ⟨b, 0, none⟩)] w fun e w' => e = .returned (.bool true) ∧ (∃ r cap, (v.ownBlock = some r ∨ w.heap.size ≤ r) ∧ RPopAt w' b q (.slice (some ⟨r, 0, none⟩) (l.length + 1) cap) (l ++ [d]) most 1 d old false) ∧ Ref w' p g xs (wrap64 (c + 1)) ∧ (∀ r, v.ownBlock = some r → Else [b, r, p, g] w w') := by
  obtain ⟨r, cap, rfl, ds⟩ := P.row.get hl0
  have lp := List.length_pos_iff.2 hl0
  have d0 := ds (l.length - 1) (by omega)
  clear ds
  have m0 := hn _ (Stk.getD_mem (show l.length - 1 < l.length by omega))
  generalize l.getD (l.length - 1) 0 = x at *
  have n1 := E.n1
  have hlx := E.hl
  have htx := E.top
  have okx := E.ok (ln + x)
  obtain ⟨y, hy⟩ : ∃ y, xs.getD (ln + x) 0 = y := ⟨_, rfl⟩
  rw [hy] at okx hd'
  have HY := Lib.hid hy
  have HD := Lib.hid hd'
  obtain ⟨K, hK⟩ : ∃ K : Nat, K = l.length := ⟨_, rfl⟩
  have HKL := Lib.hid hK
  rw [← hK] at lp hl d0 hm
  obtain ⟨k, hk⟩ : ∃ k, K - 1 = k := ⟨_, rfl⟩
  rw [hk] at d0
  have e9 : (K : Int) - 1 = (k : Int) := by omega
  have j1 : (k : Int) < (K : Int) := by omega
  have j2 : (0 : Int) ≤ (k : Int) := Int.natCast_nonneg _
  have j3 : (0 : Int) ≤ (d : Int) := Int.natCast_nonneg _
  have j4 : (K : Int) < (most : Int) := by omega
  have HLT := Lib.hid (show ln + x < xs.length by omega)
  have HAD := Lib.hid (show (ln : Int) + (x : Int) = ((ln + x : Nat) : Int) by omega)
  have HK8 := Lib.hid hl
  have s9 : ln + x ≤ 8400000 ∧ (-9223372036854775808 ≤ (K : Int) - 1 ∧ (K : Int) - 1 ≤ 9223372036854775807) ∧ (K : Int) - 1 < 9223372036854775808 := by omega
  obtain ⟨z4, z5, z6⟩ := s9
  obtain ⟨s3, s4⟩ := wrapS (a := ln) (b := x) z4
  have sK := (IntWalk.i64_in ((K : Int) - 1) z5).trans e9
  have sK2 := (wrap64_in z5.1 z6).trans e9
  have hr : r ∉ [p, g] := fun hk => A.v2 r hk rfl
  have hbr : b ≠ r := fun e => P.away (by rw [e]; rfl)
  clear z4 z5 z6 e9 hk hl lp hy hd' hn hl0 hK hm
  have hb := A.b2
  have hbq := A.bq
  have hq : q ∉ [p, g] := by simp [E.np, E.ng]
  obtain ⟨c0, c1, c2, c3, c4, c5, c6⟩ := P.cells
  obtain ⟨k0, k1, k2, k3⟩ := E.cells
  have HP := Lib.hid P
  have HE := Lib.hid E
  have HA := Lib.hid A
  clear P E A
  go_enter Tryz.func88, Tryz.ntmps88
  rw [← HKL.out] at c5
  go_upto_region 15 with fail
  go_region_held3 (fun w' => w'.cell? ⟨b, 5, none⟩ = some (.slice (some ⟨r, 0, none⟩) K cap) ∧ w'.cell? ⟨r, k, none⟩ = some (.int .i64 x) ∧ w'.cell? ⟨q, 0, none⟩ = some (.pointer (some ⟨p, 0, none⟩)) ∧ w'.cell? ⟨q, 2, none⟩ = some (.int .i64 ln)) ((first | exact ⟨c5, d0, k0, k2⟩ | exact ⟨E1.kept c5 hb, E1.kept d0 hr, E1.kept k0 hq, E1.kept k2 hq⟩ | exact ⟨kept_set (off_ne (by decide)) (E1.kept c5 hb), kept_set (ad_ne hbr) (E1.kept d0 hr), kept_set (ad_ne hbq) (E1.kept k0 hq), kept_set (ad_ne hbq) (E1.kept k2 hq)⟩))
    (first
      | (go_at_call 85; refine (rload_to (k := ln + x) HAD.out (HE.out.mem.up (up_drew w)) HLT.out HY.out).mono ?_; rintro e w1 ⟨rfl, M1, E1⟩; have EE := Lib.hid (HE.out.turn M1 ((Else.of_up (up_drew w)).trans E1) hq HE.out.ok rfl); have d3 := E1.kept (p := ⟨b, 3, none⟩) c3 hb; have g3 := ((HP.out.up (up_drew w)).else E1 HA.out.b2 HA.out.v2).top.frozen 3)
      | (go_at_call 57; refine (rbelow_to EE.out okx.1 okx.2 HD.out).mono ?_; rintro e w9 ⟨rfl, rfl⟩))
  have E2 := Lib.hid (else_self (b := b) (o := 3) (u := .int .i64 (d : Int)) (((Else.of_up (up_drew w)).trans E1).wide b) (by simp))
  have P1 := Lib.hid (((HP.out.up (up_drew w)).else E1 HA.out.b2 HA.out.v2).below (d : Int))
  have EF := Lib.hid (EE.out.self HA.out.bp HA.out.bg HA.out.bq 3 (.int .i64 (d : Int)))
  clear M1 E1 EE c0 c1 c2 c3 c4 c5 c6 k0 k1 k2 k3 d3 g3 d0
  go_upto_region 16 with fail
  generalize w1.setCell ⟨b, 3, none⟩ (.int .i64 (d : Int)) = w2 at *
  obtain ⟨c0, c1, c2, c3, c4, c5, c6⟩ := P1.out.cells
  rw [← HKL.out] at c5
  go_quiet (fail)
  replace P1 := Lib.hid (P1.out.up (Up.drewN w2 nq))
  replace EF := Lib.hid (EF.out.up (Up.drewN w2 nq))
  replace E2 := Lib.hid (E2.out.up (Up.drewN w2 nq))
  clear c0 c1 c2 c3 c4 c5 c6
  go_upto_region 17 with fail
  generalize w2.drewN nq = w4 at *
  obtain ⟨c0, c1, c2, c3, c4, c5, c6⟩ := P1.out.cells
  rw [← HKL.out] at c5
  have HJ := P1.out.row
  rw [← HKL.out] at HJ
  replace HJ := Lib.hid HJ
  have c5a := (Up.alloc w4 (.cells #[.int .i64 (d : Int)] 3)).kept c5
  go_region_law (refine step_app (by rfl) _ _ (by rfl) (by rfl) (by rfl) ((HJ.out.up (up_drew w4)).up (Up.alloc _ _)) (rd_one _ (d : Int)) (by rw [I_len]; have := HK8.out; have := HKL.out; simp; omega) ?_; intro v5 w5 J5 G5 A5; obtain ⟨A5v, N5, c5', e5⟩ := shapeI J5; subst e5; have HJ5 := Lib.hid J5; have HG5 := Lib.hid G5; have HA5 := Lib.hid A5; have T5 := Lib.hid (Whole.grown ((P1.out.up (up_drew w4)).up (Up.alloc _ _)).top G5 (by simp [Value.ownBlock]; exact hbr)); have y5 := T5.out.cell (i := 5) rfl; have g5 := T5.out.frozen 5; clear J5 G5 A5)
  all_goals
    clear c0 c1 c2 c3 c4 c5 c6 c5a
    go_wp2_with fail
    go_ret
    exact ⟨rfl, rmore_end P1.out EF.out.mem E2.out HA.out HKL.out HJ5.out HG5.out HA5.out⟩
set_option maxHeartbeats 4000000 in
theorem rpop_yes (E : REnv w p g q hd ln n xs c) (P : RPopAt w b q v l most 2 deep old false) (A : Apart b p g q v) (h0 : 0 ≤ old) (h1 : old < 18446744073709551616) (e0 : -1 ≤ deep) (e1 : deep < n) (hc : xs.getD hd 0 = old) :
    Calls Tryz.prog 88 #[.pointer (some ⟨b, 0, none⟩)] w fun e w' => e = .returned (.bool true) ∧ RPopAt w' b q v l most 0 deep old true ∧ Ref w' p g (xs.set hd (nextW old deep)) (wrap64 (c + 1)) ∧ Else [b, p, g] w w' := by
  have hhx := E.hh
  have n1 := E.n1
  have HX0 := Lib.hid (show -1 ≤ deep ∧ deep ≤ 4096 by omega)
  have HC := Lib.hid hc
  clear hc
  have hb := A.b2
  have hbq := A.bq
  have hq : q ∉ [p, g] := by simp [E.np, E.ng]
  obtain ⟨c0, c1, c2, c3, c4, c5, c6⟩ := P.cells
  obtain ⟨k0, k1, k2, k3⟩ := E.cells
  have HP := Lib.hid P
  have HE := Lib.hid E
  have HA := Lib.hid A
  clear P E A
  go_enter Tryz.func88, Tryz.ntmps88
  go_upto_region 5 with fail
  go_region_held3 (fun w' => w'.cell? ⟨b, 3, none⟩ = some (.int .i64 deep) ∧ w'.cell? ⟨b, 4, none⟩ = some (.int .u64 old) ∧ w'.cell? ⟨q, 0, none⟩ = some (.pointer (some ⟨p, 0, none⟩)) ∧ w'.cell? ⟨q, 1, none⟩ = some (.int .i64 hd)) ((first | exact ⟨c3, c4, k0, k1⟩ | exact ⟨U1.kept c3, U1.kept c4, U1.kept k0, U1.kept k1⟩ | exact ⟨E2.kept (U1.kept c3) hb, E2.kept (U1.kept c4) hb, E2.kept (U1.kept k0) hq, E2.kept (U1.kept k1) hq⟩ | exact ⟨kept_set (off_ne (by decide)) (E2.kept (U1.kept c3) hb), kept_set (off_ne (by decide)) (E2.kept (U1.kept c4) hb), kept_set (ad_ne hbq) (E2.kept (U1.kept k0) hq), kept_set (ad_ne hbq) (E2.kept (U1.kept k1) hq)⟩))
    (first
      | (go_at_call 125; refine (rnext_in h0 h1 HX0.out.1 HX0.out.2 _).mono ?_; rintro e w1 ⟨rfl, U1⟩)
      | (go_at_call 124; refine (rcas_yes _ ((HE.out.mem.up (up_drew w)).up U1) hhx HC.out).mono ?_; rintro e w2 ⟨rfl, M1, E2⟩; have d4 := E2.kept (p := ⟨b, 6, none⟩) (U1.kept c6) hb; have g4 := ((HP.out.up ((up_drew w).trans U1)).else E2 HA.out.b2 HA.out.v2).top.frozen 6))
  have E3 := Lib.hid ((Else.of_up ((up_drew w).trans U1)).trans E2)
  have P1 := Lib.hid (((HP.out.up ((up_drew w).trans U1)).else E2 HA.out.b2 HA.out.v2).fin true)
  have M2 := Lib.hid (M1.self HA.out.bp HA.out.bg 6 (.bool true))
  have j2 := P1.out.cells.2.2.1
  have f2 := P1.out.top.frozen 2
  clear M1 E2 U1 c0 c1 c2 c3 c4 c5 c6 k0 k1 k2 k3 d4 g4
  go_wp2_with fail
  go_ret
  refine ⟨rfl, P1.out.at_ 0, M2.out.self HA.out.bp HA.out.bg _ _, else_self (else_self (E3.out.wide b) (by simp)) (by simp)⟩
set_option maxHeartbeats 4000000 in
theorem rpop_no (E : REnv w p g q hd ln n xs c) (P : RPopAt w b q v l most 2 deep old false) (A : Apart b p g q v) (h0 : 0 ≤ old) (h1 : old < 18446744073709551616) (e0 : -1 ≤ deep) (e1 : deep < n) (hc : xs.getD hd 0 ≠ old) :
    Calls Tryz.prog 88 #[.pointer (some ⟨b, 0, none⟩)] w fun e w' => e = .returned (.bool true) ∧ RPopAt w' b q v l most 0 deep old false ∧ Ref w' p g xs (wrap64 (c + 1)) ∧ Else [b, p, g] w w' := by
  have hhx := E.hh
  have n1 := E.n1
  have HX0 := Lib.hid (show -1 ≤ deep ∧ deep ≤ 4096 by omega)
  have HC := Lib.hid hc
  clear hc
  have hb := A.b2
  have hbq := A.bq
  have hq : q ∉ [p, g] := by simp [E.np, E.ng]
  obtain ⟨c0, c1, c2, c3, c4, c5, c6⟩ := P.cells
  obtain ⟨k0, k1, k2, k3⟩ := E.cells
  have HP := Lib.hid P
  have HE := Lib.hid E
  have HA := Lib.hid A
  clear P E A
  go_enter Tryz.func88, Tryz.ntmps88
  go_upto_region 5 with fail
  go_region_held3 (fun w' => w'.cell? ⟨b, 3, none⟩ = some (.int .i64 deep) ∧ w'.cell? ⟨b, 4, none⟩ = some (.int .u64 old) ∧ w'.cell? ⟨q, 0, none⟩ = some (.pointer (some ⟨p, 0, none⟩)) ∧ w'.cell? ⟨q, 1, none⟩ = some (.int .i64 hd)) ((first | exact ⟨c3, c4, k0, k1⟩ | exact ⟨U1.kept c3, U1.kept c4, U1.kept k0, U1.kept k1⟩ | exact ⟨E2.kept (U1.kept c3) hb, E2.kept (U1.kept c4) hb, E2.kept (U1.kept k0) hq, E2.kept (U1.kept k1) hq⟩ | exact ⟨kept_set (off_ne (by decide)) (E2.kept (U1.kept c3) hb), kept_set (off_ne (by decide)) (E2.kept (U1.kept c4) hb), kept_set (ad_ne hbq) (E2.kept (U1.kept k0) hq), kept_set (ad_ne hbq) (E2.kept (U1.kept k1) hq)⟩))
    (first
      | (go_at_call 125; refine (rnext_in h0 h1 HX0.out.1 HX0.out.2 _).mono ?_; rintro e w1 ⟨rfl, U1⟩)
      | (go_at_call 124; refine (rcas_no _ ((HE.out.mem.up (up_drew w)).up U1) hhx HC.out).mono ?_; rintro e w2 ⟨rfl, M1, E2⟩; have d4 := E2.kept (p := ⟨b, 6, none⟩) (U1.kept c6) hb; have g4 := ((HP.out.up ((up_drew w).trans U1)).else E2 HA.out.b2 HA.out.v2).top.frozen 6))
  have E3 := Lib.hid ((Else.of_up ((up_drew w).trans U1)).trans E2)
  have P1 := Lib.hid (((HP.out.up ((up_drew w).trans U1)).else E2 HA.out.b2 HA.out.v2).fin false)
  have M2 := Lib.hid (M1.self HA.out.bp HA.out.bg 6 (.bool false))
  have j2 := P1.out.cells.2.2.1
  have f2 := P1.out.top.frozen 2
  clear M1 E2 U1 c0 c1 c2 c3 c4 c5 c6 k0 k1 k2 k3 d4 g4
  go_wp2_with fail
  go_ret
  refine ⟨rfl, P1.out.at_ 0, M2.out.self HA.out.bp HA.out.bg _ _, else_self (else_self (E3.out.wide b) (by simp)) (by simp)⟩
end
end Go.Proofs.YtkopplnjomkleaaGreat
