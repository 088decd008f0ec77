/-
  Texts beneath SupplyAll, part 11: Push2, Push3, Pop, PopEnds.
-/
import Derived.Test.YtkopplnjomkleaaGreatPart10
import Derived.Deep.RegionHeldLaw
/-
  Package stack: the machine Push, its accesses.
-/
namespace Go.Proofs.YtkopplnjomkleaaGreat
open Go.RowKit
open W64
set_option maxRecDepth 100000
section
variable {w w' : World} {p g q hd ln n b : Nat} {s : St} {v : Value} {l : List Nat} {i : Nat} {old : Int} {nx : Value}
/-- A machine lies apart from the stack and its memory. -/
structure Apart (b p g q : Nat) (v : Value) : Prop where
  bp : b ≠ p
  bg : b ≠ g
  bq : b ≠ q
  vp : v.ownBlock ≠ some p
  vg : v.ownBlock ≠ some g
  vq : v.ownBlock ≠ some q
theorem Apart.b2 {v : Value} (A : Apart b p g q v) : b ∉ [p, g] := by simp [A.bp, A.bg]
theorem Apart.v2 {v : Value} (A : Apart b p g q v) : Away v [p, g] := by
  intro k hk; simp at hk; rcases hk with rfl | rfl
  · exact A.vp
  · exact A.vg
theorem PushAt.count1 (P : PushAt w b q v l i old nx) : PushAt (w.setCell ⟨b, 2, none⟩ (.int .i64 ((i : Int) + 1))) b q v l (i + 1) old nx := P.count (i + 1)
set_option maxHeartbeats 2000000 in
theorem push_link (E : Env w p g q hd ln n s) (P : PushAt w b q v l i old nx) (A : Apart b p g q v) (hi : i + 1 < l.length) (hn : ∀ x ∈ l, x < n) (hl : l.length ≤ 8192) :
    Calls Tryz.prog 148 #[.pointer (some ⟨b, 0, none⟩)] w fun e w' => e = .returned (.tuple #[]) ∧ PushAt w' b q v l (i + 1) old (nxL b l.length (i + 1)) ∧ Mem w' p g (s.hit 2 (ln + (l.getD i 0 : Nat)) ((l.getD (i + 1) 0 : Nat) + 1) true) ∧ Else [b, p, g] w w' := by
  obtain ⟨r, cap, rfl, ds⟩ := P.row.get (by intro e; simp [e] at hi)
  have d0 := ds i (by omega)
  have d1 := ds (i + 1) (by omega)
  clear ds
  obtain ⟨c0, c1, c2, _, _⟩ := P.cells
  have m0 := hn _ (Stk.getD_mem (show i < l.length by omega))
  have m1 := hn _ (Stk.getD_mem (show i + 1 < l.length by omega))
  generalize l.getD i 0 = x at *
  generalize l.getD (i + 1) 0 = y at *
  have i0 : (0 : Int) ≤ (i : Int) := Int.natCast_nonneg _
  have i1 : (i : Int) < (l.length : Int) := by omega
  have i2 : (i : Int) + 1 < (l.length : Int) := by omega
  have i3 : (0 : Int) ≤ (i : Int) + 1 := by omega
  have s2 : IntKind.i64.wrap ((i : Int) + 1) = (i : Int) + 1 := IntWalk.i64_in _ (by omega)
  have hb := A.b2
  have hr : r ∉ [p, g] := fun hk => A.v2 r hk rfl
  have HP := Lib.hid P
  have HE := Lib.hid E
  have HA := Lib.hid A
  clear P E A hn
  go_enter Tryz.func148, Tryz.ntmps148
  go_upto_region 0 with fail
  go_region_held3 (fun w' => w'.cell? ⟨b, 0, none⟩ = some (.pointer (some ⟨q, 0, none⟩)) ∧ w'.cell? ⟨b, 1, none⟩ = some (.slice (some ⟨r, 0, none⟩) l.length cap) ∧ w'.cell? ⟨b, 2, none⟩ = some (.int .i64 i) ∧ w'.cell? ⟨r, i, none⟩ = some (.int .i64 x) ∧ w'.cell? ⟨r, i + 1, none⟩ = some (.int .i64 y)) ((first | exact ⟨c0, c1, c2, d0, d1⟩ | exact ⟨E1.kept c0 hb, E1.kept c1 hb, E1.kept c2 hb, E1.kept d0 hr, E1.kept d1 hr⟩))
    (first
      | (go_at_call 155; refine (sstoreLink_in (HE.out.up (up_drew w)) (x := x) (y := y) (by omega) (by omega) (by omega) (by omega)).mono ?_; rintro e w1 ⟨rfl, M1, E1⟩))
  have E2 := Lib.hid ((Else.of_up (up_drew w)).trans E1)
  have P1 := Lib.hid (HP.out.else E2.out HA.out.b2 HA.out.v2)
  have k2 := P1.out.cells.2.2.1
  have f2 := P1.out.top.frozen 2
  have M2 := Lib.hid M1
  clear M1 E1
  go_wp2_with (go_at_call 135; refine (linkOrLoad_in (i := i + 1) (P1.out.count1) hl (by omega)).mono ?_; rintro e w3 ⟨rfl, P3, E3⟩)
  go_end0
  have E4 : Else [b, p, g] w (w1.setCell ⟨b, 2, none⟩ (.int .i64 ((i : Int) + 1))) := else_self (E2.out.wide b) (by simp)
  refine ⟨rfl, P3, ?_, E4.trans (E3.wide1 p g)⟩
  have M3 := M2.out.else (l := [b]) (Else.set (Else.refl [b] w1) (p := ⟨b, 2, none⟩) (.inl (by simp)) (.int .i64 ((i : Int) + 1))) (by simp [HA.out.bp.symm]) (by simp [HA.out.bg.symm])
  exact M3.else E3 (by simp [HA.out.bp.symm]) (by simp [HA.out.bg.symm])

set_option maxHeartbeats 2000000 in
theorem push_load (E : Env w p g q hd ln n s) (P : PushAt w b q v l i old nx) (A : Apart b p g q v) :
    Calls Tryz.prog 149 #[.pointer (some ⟨b, 0, none⟩)] w fun e w' => e = .returned (.tuple #[]) ∧ PushAt w' b q v l i (s.get hd) (meth 156 b) ∧ Mem w' p g (s.hit 1 hd (s.get hd) true) ∧ Else [b, p, g] w w' := by
  obtain ⟨c0, _, _, c3, c4⟩ := P.cells
  obtain ⟨k0, k1, _, _⟩ := E.cells
  have hq : q ∉ [p, g] := by simp [E.np, E.ng]
  have hb := A.b2
  have hbq := A.bq
  have f3 := P.top.frozen 3
  have hh := Lib.hid E.hasH
  have HM := Lib.hid E.mem
  have HP := Lib.hid P
  have HA := Lib.hid A
  have hf := run_func
  clear P E A
  go_enter Tryz.func149, Tryz.ntmps149
  go_upto_region 0 with fail
  go_region_held3 (fun w' => w'.cell? ⟨b, 0, none⟩ = some (.pointer (some ⟨q, 0, none⟩)) ∧ w'.cell? ⟨q, 0, none⟩ = some (.pointer (some ⟨p, 0, none⟩)) ∧ w'.cell? ⟨q, 1, none⟩ = some (.int .i64 hd)) ((first | exact ⟨c0, k0, k1⟩ | exact ⟨E1.kept c0 hb, E1.kept k0 hq, E1.kept k1 hq⟩ | exact ⟨kept_set (off_ne (by decide)) (E1.kept c0 hb), kept_set (ad_ne hbq) (E1.kept k0 hq), kept_set (ad_ne hbq) (E1.kept k1 hq)⟩))
    (first
      | (go_at_call 110; refine (load_in (HM.out.up (up_drew w)) hh.out).mono ?_; rintro e w1 ⟨rfl, M1, E1⟩; have d3 := E1.kept (p := ⟨b, 3, none⟩) c3 hb; have g3 := (HP.out.else ((Else.of_up (up_drew w)).trans E1) HA.out.b2 HA.out.v2).top.frozen 3))
  have P2 := Lib.hid ((HP.out.else ((Else.of_up (up_drew w)).trans E1) HA.out.b2 HA.out.v2).seen (s.get hd))
  have j4 := P2.out.cells.2.2.2.2
  have f4 := P2.out.top.frozen 4
  clear d3 g3
  go_wp2_with fail
  go_end0
  have E3 : Else [b, p, g] w (w1.setCell ⟨b, 3, none⟩ (.int .u64 (s.get hd))) := else_self (((Else.of_up (up_drew w)).trans E1).wide b) (by simp)
  refine ⟨rfl, P2.out.next _, ?_, else_self E3 (by simp)⟩
  have M3 := M1.else (l := [b]) (Else.set (Else.refl [b] w1) (p := ⟨b, 3, none⟩) (.inl (by simp)) (.int .u64 (s.get hd))) (by simp [HA.out.bp.symm]) (by simp [HA.out.bg.symm])
  exact M3.else (l := [b]) (Else.set (Else.refl [b] _) (p := ⟨b, 4, none⟩) (.inl (by simp)) _) (by simp [HA.out.bp.symm]) (by simp [HA.out.bg.symm])
end
end Go.Proofs.YtkopplnjomkleaaGreat

/-
  Package stack: the machine Push, its last accesses, Step, Done.
-/
namespace Go.Proofs.YtkopplnjomkleaaGreat
open Go.RowKit
open W64
set_option maxRecDepth 100000
section
variable {w w' : World} {p g q hd ln n b : Nat} {s : St} {v : Value} {l : List Nat} {i : Nat} {old : Int} {nx : Value}
theorem topN_in {x : Int} (_ : 0 ≤ x) (hn : 1 ≤ n) : -1 ≤ topN n x ∧ topN n x < n := by
  unfold topN; split <;> omega
theorem belowN_in {x : Int} (h : 0 ≤ x) (hn : 1 ≤ n) : -1 ≤ belowN n x ∧ belowN n x < n := by
  unfold belowN; split <;> omega
set_option maxHeartbeats 4000000 in
theorem push_last (E : Env w p g q hd ln n s) (P : PushAt w b q v l i old nx) (A : Apart b p g q v) (hl0 : l ≠ []) (hn : ∀ x ∈ l, x < n) (hl : l.length ≤ 8192) (h0 : 0 ≤ old) (h1 : old < 18446744073709551616) :
    Calls Tryz.prog 156 #[.pointer (some ⟨b, 0, none⟩)] w fun e w' => e = .returned (.tuple #[]) ∧ PushAt w' b q v l i old (meth 160 b) ∧ Mem w' p g (s.hit 2 (ln + (l.getD (l.length - 1) 0 : Nat)) (topN n old + 1) true) ∧ Else [b, p, g] w w' := by
  obtain ⟨r, cap, rfl, ds⟩ := P.row.get hl0
  have lp := List.length_pos_iff.2 hl0
  have d0 := ds (l.length - 1) (by omega)
  clear ds
  obtain ⟨c0, c1, _, c3, c4⟩ := P.cells
  have m0 := hn _ (Stk.getD_mem (show l.length - 1 < l.length by omega))
  obtain ⟨t0, t1⟩ := topN_in h0 E.n0
  generalize l.getD (l.length - 1) 0 = x at *
  obtain ⟨y, hy⟩ : ∃ y, topN n old = y := ⟨_, rfl⟩
  rw [hy] at t0 t1 ⊢
  obtain ⟨k, hk⟩ : ∃ k, l.length = k + 1 := ⟨l.length - 1, by omega⟩
  have hk1 : l.length - 1 = k := by omega
  rw [hk1] at d0
  rw [hk] at c1
  have i0 : (0 : Int) ≤ (k : Int) := Int.natCast_nonneg _
  have i1 : (k : Int) < ((k + 1 : Nat) : Int) := by omega
  have s1 : wrap64 (((k + 1 : Nat) : Int) - 1) = k := by rw [wrap64_in (by omega) (by omega)]; omega
  have s2 : IntKind.i64.wrap (((k + 1 : Nat) : Int) - 1) = k := by rw [IntWalk.i64_in _ (by omega)]; omega
  obtain ⟨K, hK⟩ : ∃ K : Nat, K = k + 1 := ⟨_, rfl⟩
  rw [← hK] at s1 s2 i1 c1
  have hb := A.b2
  have hr : r ∉ [p, g] := fun hk => A.v2 r hk rfl
  have HP := Lib.hid P
  have HE := Lib.hid E
  have HA := Lib.hid A
  have HY := Lib.hid hy
  have hf := run_func
  clear P E A hn hy hk hk1 hK
  go_enter Tryz.func156, Tryz.ntmps156
  go_upto_region 0 with fail
  go_region_held3 (fun w' => w'.cell? ⟨b, 0, none⟩ = some (.pointer (some ⟨q, 0, none⟩)) ∧ w'.cell? ⟨b, 1, none⟩ = some (.slice (some ⟨r, 0, none⟩) K cap) ∧ w'.cell? ⟨b, 3, none⟩ = some (.int .u64 old) ∧ w'.cell? ⟨r, k, none⟩ = some (.int .i64 x)) ((first | exact ⟨c0, c1, c3, d0⟩ | exact ⟨U1.kept c0, U1.kept c1, U1.kept c3, U1.kept d0⟩ | exact ⟨E2.kept (U1.kept c0) hb, E2.kept (U1.kept c1) hb, E2.kept (U1.kept c3) hb, E2.kept (U1.kept d0) hr⟩))
    (first
      | (go_at_call 54; refine (ofHead_to (HE.out.up (up_drew w)) h0 h1 HY.out).mono ?_; rintro e w1 ⟨rfl, U1⟩)
      | (go_at_call 155; refine (sstoreLink_in (HE.out.up ((up_drew w).trans U1)) (x := x) (y := y) (by omega) (by omega) t0 t1).mono ?_; rintro e w2 ⟨rfl, M2, E2⟩))
  have E3 := Lib.hid ((Else.of_up ((up_drew w).trans U1)).trans E2)
  have P2 := Lib.hid (HP.out.else E3.out HA.out.b2 HA.out.v2)
  have j4 := P2.out.cells.2.2.2.2
  have f4 := P2.out.top.frozen 4
  go_wp2_with fail
  go_end0
  refine ⟨rfl, P2.out.next _, ?_, else_self (E3.out.wide b) (by simp)⟩
  exact M2.else (l := [b]) (Else.set (Else.refl [b] _) (p := ⟨b, 4, none⟩) (.inl (by simp)) _) (by simp [HA.out.bp.symm]) (by simp [HA.out.bg.symm])

set_option maxHeartbeats 2000000 in
theorem push_turn (E : Env w p g q hd ln n s) (P : PushAt w b q v l i old nx) (A : Apart b p g q v) (hl0 : l ≠ []) {c : Bool} {s' : St}
    (hc : ∀ {w1 : World}, Env w1 p g q hd ln n s → Calls Tryz.prog 161 #[.pointer (some ⟨q, 0, none⟩), .int .u64 old, .int .i64 (l.getD 0 0 : Nat)] w1 fun e w' => e = .returned (.bool c) ∧ Mem w' p g s' ∧ Else [p, g] w1 w') :
    Calls Tryz.prog 160 #[.pointer (some ⟨b, 0, none⟩)] w fun e w' => e = .returned (.tuple #[]) ∧ PushAt w' b q v l i old (if c then .nilFunc else meth 149 b) ∧ Mem w' p g s' ∧ Else [b, p, g] w w' := by
  obtain ⟨r, cap, rfl, ds⟩ := P.row.get hl0
  have lp := List.length_pos_iff.2 hl0
  have d0 := ds 0 lp
  clear ds
  obtain ⟨c0, c1, _, c3, c4⟩ := P.cells
  generalize l.getD 0 0 = x at *
  have i1 : (0 : Int) < (l.length : Int) := by omega
  have hb := A.b2
  have hr : r ∉ [p, g] := fun hk => A.v2 r hk rfl
  have HP := Lib.hid P
  have HA := Lib.hid A
  have HC := Lib.hid (hc (E.up (up_drew w)))
  have hf := run_func
  clear P E A hc
  cases c
  · go_enter Tryz.func160, Tryz.ntmps160
    go_upto_region 0 with fail
    go_region_held3 (fun w' => w'.cell? ⟨b, 0, none⟩ = some (.pointer (some ⟨q, 0, none⟩)) ∧ w'.cell? ⟨b, 1, none⟩ = some (.slice (some ⟨r, 0, none⟩) l.length cap) ∧ w'.cell? ⟨b, 3, none⟩ = some (.int .u64 old) ∧ w'.cell? ⟨r, 0, none⟩ = some (.int .i64 x)) ((first | exact ⟨c0, c1, c3, d0⟩ | exact ⟨E2.kept c0 hb, E2.kept c1 hb, E2.kept c3 hb, E2.kept d0 hr⟩))
      (first
        | (go_at_call 161; refine HC.out.mono ?_; rintro e w2 ⟨rfl, M2, E2⟩))
    have E3 := Lib.hid ((Else.of_up (up_drew w)).trans E2)
    have P2 := Lib.hid (HP.out.else E3.out HA.out.b2 HA.out.v2)
    have j4 := P2.out.cells.2.2.2.2
    have f4 := P2.out.top.frozen 4
    go_wp2_with fail
    go_end0
    refine ⟨rfl, P2.out.next _, ?_, else_self (E3.out.wide b) (by simp)⟩
    exact M2.else (l := [b]) (Else.set (Else.refl [b] _) (p := ⟨b, 4, none⟩) (.inl (by simp)) _) (by simp [HA.out.bp.symm]) (by simp [HA.out.bg.symm])
  · go_enter Tryz.func160, Tryz.ntmps160
    go_upto_region 0 with fail
    go_region_held3 (fun w' => w'.cell? ⟨b, 0, none⟩ = some (.pointer (some ⟨q, 0, none⟩)) ∧ w'.cell? ⟨b, 1, none⟩ = some (.slice (some ⟨r, 0, none⟩) l.length cap) ∧ w'.cell? ⟨b, 3, none⟩ = some (.int .u64 old) ∧ w'.cell? ⟨r, 0, none⟩ = some (.int .i64 x)) ((first | exact ⟨c0, c1, c3, d0⟩ | exact ⟨E2.kept c0 hb, E2.kept c1 hb, E2.kept c3 hb, E2.kept d0 hr⟩))
      (first
        | (go_at_call 161; refine HC.out.mono ?_; rintro e w2 ⟨rfl, M2, E2⟩))
    have E3 := Lib.hid ((Else.of_up (up_drew w)).trans E2)
    have P2 := Lib.hid (HP.out.else E3.out HA.out.b2 HA.out.v2)
    have j4 := P2.out.cells.2.2.2.2
    have f4 := P2.out.top.frozen 4
    go_wp2_with fail
    go_end0
    refine ⟨rfl, P2.out.next _, ?_, else_self (E3.out.wide b) (by simp)⟩
    exact M2.else (l := [b]) (Else.set (Else.refl [b] _) (p := ⟨b, 4, none⟩) (.inl (by simp)) _) (by simp [HA.out.bp.symm]) (by simp [HA.out.bg.symm])

/-! ### Done, Step -/
theorem pushDone_no {f : FuncId} (c4 : w.cell? ⟨b, 4, none⟩ = some (meth f b)) :
    Calls Tryz.prog 108 #[.pointer (some ⟨b, 0, none⟩)] w fun e w' => e = .returned (.bool false) ∧ w = w' := by
  unfold meth at c4
  have h1 := run_eql_func
  go_enter Tryz.func108, Tryz.ntmps108
  go_wp2_with fail
  go_ret
  exact ⟨rfl, rfl⟩
theorem pushDone_yes (c4 : w.cell? ⟨b, 4, none⟩ = some .nilFunc) :
    Calls Tryz.prog 108 #[.pointer (some ⟨b, 0, none⟩)] w fun e w' => e = .returned (.bool true) ∧ w = w' := by
  have h1 := run_eql_nilFunc
  go_enter Tryz.func108, Tryz.ntmps108
  go_wp2_with fail
  go_ret
  exact ⟨rfl, rfl⟩
theorem pushStep_end (c4 : w.cell? ⟨b, 4, none⟩ = some .nilFunc) :
    Calls Tryz.prog 136 #[.pointer (some ⟨b, 0, none⟩)] w fun e w' => e = .returned (.bool false) ∧ w = w' := by
  have h1 := Lib.hid c4
  go_enter Tryz.func136, Tryz.ntmps136
  go_wp2_with (go_at_call 108; refine (pushDone_yes h1.out).mono ?_; rintro e w' ⟨rfl, rfl⟩)
  go_ret
  exact ⟨rfl, rfl⟩
theorem pushStep_link {R : World → Prop} (c4 : w.cell? ⟨b, 4, none⟩ = some (meth 148 b)) (h : Calls Tryz.prog 148 #[.pointer (some ⟨b, 0, none⟩)] w fun e w' => e = .returned (.tuple #[]) ∧ R w') :
    Calls Tryz.prog 136 #[.pointer (some ⟨b, 0, none⟩)] w fun e w' => e = .returned (.bool true) ∧ R w' := by
  have h1 := Lib.hid c4
  have H := Lib.hid h
  unfold meth at c4
  clear h
  go_enter Tryz.func136, Tryz.ntmps136
  go_wp2_with (first
    | (go_at_call 108; refine (pushDone_no h1.out).mono ?_; rintro e w' ⟨rfl, rfl⟩)
    | (go_at_call 148; refine H.out.mono ?_; rintro e w2 ⟨rfl, r2⟩))
  go_ret
  exact ⟨rfl, r2⟩
theorem pushStep_load {R : World → Prop} (c4 : w.cell? ⟨b, 4, none⟩ = some (meth 149 b)) (h : Calls Tryz.prog 149 #[.pointer (some ⟨b, 0, none⟩)] w fun e w' => e = .returned (.tuple #[]) ∧ R w') :
    Calls Tryz.prog 136 #[.pointer (some ⟨b, 0, none⟩)] w fun e w' => e = .returned (.bool true) ∧ R w' := by
  have h1 := Lib.hid c4
  have H := Lib.hid h
  unfold meth at c4
  clear h
  go_enter Tryz.func136, Tryz.ntmps136
  go_wp2_with (first
    | (go_at_call 108; refine (pushDone_no h1.out).mono ?_; rintro e w' ⟨rfl, rfl⟩)
    | (go_at_call 149; refine H.out.mono ?_; rintro e w2 ⟨rfl, r2⟩))
  go_ret
  exact ⟨rfl, r2⟩
theorem pushStep_last {R : World → Prop} (c4 : w.cell? ⟨b, 4, none⟩ = some (meth 156 b)) (h : Calls Tryz.prog 156 #[.pointer (some ⟨b, 0, none⟩)] w fun e w' => e = .returned (.tuple #[]) ∧ R w') :
    Calls Tryz.prog 136 #[.pointer (some ⟨b, 0, none⟩)] w fun e w' => e = .returned (.bool true) ∧ R w' := by
  have h1 := Lib.hid c4
  have H := Lib.hid h
  unfold meth at c4
  clear h
  go_enter Tryz.func136, Tryz.ntmps136
  go_wp2_with (first
    | (go_at_call 108; refine (pushDone_no h1.out).mono ?_; rintro e w' ⟨rfl, rfl⟩)
    | (go_at_call 156; refine H.out.mono ?_; rintro e w2 ⟨rfl, r2⟩))
  go_ret
  exact ⟨rfl, r2⟩
theorem pushStep_turn {R : World → Prop} (c4 : w.cell? ⟨b, 4, none⟩ = some (meth 160 b)) (h : Calls Tryz.prog 160 #[.pointer (some ⟨b, 0, none⟩)] w fun e w' => e = .returned (.tuple #[]) ∧ R w') :
    Calls Tryz.prog 136 #[.pointer (some ⟨b, 0, none⟩)] w fun e w' => e = .returned (.bool true) ∧ R w' := by
  have h1 := Lib.hid c4
  have H := Lib.hid h
  unfold meth at c4
  clear h
  go_enter Tryz.func136, Tryz.ntmps136
  go_wp2_with (first
    | (go_at_call 108; refine (pushDone_no h1.out).mono ?_; rintro e w' ⟨rfl, rfl⟩)
    | (go_at_call 160; refine H.out.mono ?_; rintro e w2 ⟨rfl, r2⟩))
  go_ret
  exact ⟨rfl, r2⟩
end
end Go.Proofs.YtkopplnjomkleaaGreat

/-
  Package stack: the machine Pop.
-/
namespace Go.Proofs.YtkopplnjomkleaaGreat
open Go.RowKit
open W64
set_option maxRecDepth 100000

/-- A Pop lies at b, over the stack at q: how many at most; its items l lie at v; the one below; the head that it loaded; the next access. -/
structure PopAt (w : World) (b q : Nat) (v : Value) (l : List Nat) (most : Nat) (deep old : Int) (nx : Value) : Prop where
  top : Whole w b 197 #[.pointer (some ⟨q, 0, none⟩), .int .i64 most, v, .int .i64 deep, .int .u64 old, nx]
  row : Ints w v (I l)
  away : v.ownBlock ≠ some b
section
variable {w w' : World} {p g q hd ln n b most : Nat} {s : St} {v v' : Value} {l l' : List Nat} {deep old : Int} {nx : Value}
theorem PopAt.up (P : PopAt w b q v l most deep old nx) (u : Up w w') : PopAt w' b q v l most deep old nx := ⟨P.top.up u, P.row.up u, P.away⟩
theorem PopAt.else (P : PopAt w b q v l most deep old nx) {t : List Nat} (u : Else t w w') (h1 : b ∉ t) (h2 : Away v t) : PopAt w' b q v l most deep old nx := ⟨u.whole P.top h1, P.row.else u h2, P.away⟩
theorem PopAt.cells (P : PopAt w b q v l most deep old nx) : w.cell? ⟨b, 0, none⟩ = some (.pointer (some ⟨q, 0, none⟩)) ∧ w.cell? ⟨b, 1, none⟩ = some (.int .i64 most) ∧ w.cell? ⟨b, 2, none⟩ = some v ∧ w.cell? ⟨b, 3, none⟩ = some (.int .i64 deep) ∧ w.cell? ⟨b, 4, none⟩ = some (.int .u64 old) ∧ w.cell? ⟨b, 5, none⟩ = some nx :=
  ⟨P.top.cell rfl, P.top.cell rfl, P.top.cell rfl, P.top.cell rfl, P.top.cell rfl, P.top.cell rfl⟩
theorem row_self {w : World} {v : Value} {xs : List Int} (h : Ints w v xs) (a : v.ownBlock ≠ some b) {i : Nat} (u : Value) : Ints (w.setCell ⟨b, i, none⟩ u) v xs :=
  h.else (Else.set (s := [b]) (Else.refl [b] w) (p := ⟨b, i, none⟩) (.inl (by simp)) u) (by intro k hk; simp at hk; subst hk; exact a)
theorem PopAt.next (P : PopAt w b q v l most deep old nx) (nx' : Value) : PopAt (w.setCell ⟨b, 5, none⟩ nx') b q v l most deep old nx' := ⟨P.top.set 5 nx', row_self P.row P.away _, P.away⟩
theorem PopAt.seen (P : PopAt w b q v l most deep old nx) (old' : Int) : PopAt (w.setCell ⟨b, 4, none⟩ (.int .u64 old')) b q v l most deep old' nx := ⟨P.top.set 4 _, row_self P.row P.away _, P.away⟩
theorem PopAt.below (P : PopAt w b q v l most deep old nx) (d : Int) : PopAt (w.setCell ⟨b, 3, none⟩ (.int .i64 d)) b q v l most d old nx := ⟨P.top.set 3 _, row_self P.row P.away _, P.away⟩
theorem PopAt.items (P : PopAt w b q v l most deep old nx) (r : Ints w v' (I l')) (a : v'.ownBlock ≠ some b) : PopAt (w.setCell ⟨b, 2, none⟩ v') b q v' l' most deep old nx := ⟨P.top.set 2 _, row_self r a _, a⟩
theorem Mem.self (M : Mem w p g s) (h1 : b ≠ p) (h2 : b ≠ g) (i : Nat) (u : Value) : Mem (w.setCell ⟨b, i, none⟩ u) p g s :=
  M.else (l := [b]) (Else.set (Else.refl [b] w) (p := ⟨b, i, none⟩) (.inl (by simp)) u) (by simp [h1.symm]) (by simp [h2.symm])
theorem Env.self (E : Env w p g q hd ln n s) (h1 : b ≠ p) (h2 : b ≠ g) (h3 : b ≠ q) (i : Nat) (u : Value) : Env (w.setCell ⟨b, i, none⟩ u) p g q hd ln n s :=
  E.else (l := [b]) (Else.set (Else.refl [b] w) (p := ⟨b, i, none⟩) (.inl (by simp)) u) (by simp [h1.symm]) (by simp [h2.symm]) (by simp [h3.symm])

set_option maxHeartbeats 2000000 in
theorem pop_load0 (E : Env w p g q hd ln n s) (P : PopAt w b q v l most deep old nx) (A : Apart b p g q v) (ht : topN n (s.get hd) = -1) :
    Calls Tryz.prog 138 #[.pointer (some ⟨b, 0, none⟩)] w fun e w' => e = .returned (.tuple #[]) ∧ PopAt w' b q (.slice none 0 0) [] most deep (s.get hd) .nilFunc ∧ Mem w' p g (s.hit 1 hd (s.get hd) true) ∧ Else [b, p, g] w w' := by
  obtain ⟨c0, _, c2, c3, c4, c5⟩ := P.cells
  obtain ⟨k0, k1, _, _⟩ := E.cells
  have hq : q ∉ [p, g] := by simp [E.np, E.ng]
  have hb := A.b2
  have hbq := A.bq
  have hk := E.ok hd
  have hh := Lib.hid E.hasH
  have HE := Lib.hid E
  have HP := Lib.hid P
  have HA := Lib.hid A
  have HT := Lib.hid ht
  have hf := run_func
  clear P E A ht
  go_enter Tryz.func138, Tryz.ntmps138
  go_upto_region 0 with fail
  go_region_held3 (fun w' => w'.cell? ⟨b, 0, none⟩ = some (.pointer (some ⟨q, 0, none⟩)) ∧ w'.cell? ⟨q, 0, none⟩ = some (.pointer (some ⟨p, 0, none⟩)) ∧ w'.cell? ⟨q, 1, none⟩ = some (.int .i64 hd)) ((first | exact ⟨c0, k0, k1⟩ | exact ⟨E1.kept c0 hb, E1.kept k0 hq, E1.kept k1 hq⟩ | exact ⟨kept_set (off_ne (by decide)) (E1.kept c0 hb), kept_set (ad_ne hbq) (E1.kept k0 hq), kept_set (ad_ne hbq) (E1.kept k1 hq)⟩))
    (first
      | (go_at_call 110; refine (load_in (HE.out.mem.up (up_drew w)) hh.out).mono ?_; rintro e w1 ⟨rfl, M1, E1⟩; have d3 := E1.kept (p := ⟨b, 4, none⟩) c4 hb; have g3 := (HP.out.else ((Else.of_up (up_drew w)).trans E1) HA.out.b2 HA.out.v2).top.frozen 4))
  have HE1 := Lib.hid ((Else.of_up (up_drew w)).trans E1)
  have P2 := Lib.hid ((HP.out.else HE1.out HA.out.b2 HA.out.v2).seen (s.get hd))
  have EE := Lib.hid ((HE.out.turn M1 HE1.out (HE.out.ok.hit 1 hd true hk.1 hk.2) (hit_len _ _ _ _ _)).self HA.out.bp HA.out.bg HA.out.bq 4 (.int .u64 (s.get hd)))
  have E3 : Else [b, p, g] w (w1.setCell ⟨b, 4, none⟩ (.int .u64 (s.get hd))) := else_self (HE1.out.wide b) (by simp)
  have E3 := Lib.hid E3
  clear d3 g3 M1 E1 HE1 c0 c2 c3 c4 c5 k0 k1
  generalize w1.setCell ⟨b, 4, none⟩ (.int .u64 (s.get hd)) = w2 at *
  have j2 := P2.out.cells.2.2.1
  have f2 := P2.out.top.frozen 2
  go_upto_region 2 with fail
  have P3 := Lib.hid (P2.out.items (v' := .slice none 0 0) (l' := []) (Ints.nil _) (by simp [Value.ownBlock]))
  have EF := Lib.hid (EE.out.self HA.out.bp HA.out.bg HA.out.bq 2 (.slice none 0 0))
  have E4 : Else [b, p, g] w (w2.setCell ⟨b, 2, none⟩ (.slice none 0 0)) := else_self E3.out (by simp)
  have E4 := Lib.hid E4
  clear j2 f2 P2 EE E3
  generalize w2.setCell ⟨b, 2, none⟩ (.slice none 0 0) = w3 at *
  have r0 := P3.out.cells.1
  have r4 := P3.out.cells.2.2.2.2.1
  go_region_held3 (fun w' => w'.cell? ⟨b, 0, none⟩ = some (.pointer (some ⟨q, 0, none⟩)) ∧ w'.cell? ⟨b, 4, none⟩ = some (.int .u64 (s.get hd))) ((first | exact ⟨r0, r4⟩ | exact ⟨U5.kept r0, U5.kept r4⟩))
    (first
      | (go_at_call 54; refine (ofHead_to (EF.out.up (up_drew w3)) hk.1 hk.2 HT.out).mono ?_; rintro e w5 ⟨rfl, U5⟩))
  have V := (up_drew w3).trans U5
  have P6 := Lib.hid (P3.out.up V)
  have M6 := Lib.hid (EF.out.mem.up V)
  have E6 := Lib.hid (E4.out.up V)
  have j5 := P6.out.cells.2.2.2.2.2
  have f5 := P6.out.top.frozen 5
  clear r0 r4 V U5
  go_wp2_with fail
  refine bodyPost_ret (v := .tuple #[]) (by simp [results, Tryz.results138, go_sem]) rfl ?_
  exact ⟨rfl, P6.out.next _, M6.out.self HA.out.bp HA.out.bg _ _, else_self E6.out (by simp)⟩

set_option maxHeartbeats 2000000 in
theorem pop_load1 (E : Env w p g q hd ln n s) (P : PopAt w b q v l most deep old nx) (A : Apart b p g q v) {t : Nat} (ht : topN n (s.get hd) = t) :
    Calls Tryz.prog 138 #[.pointer (some ⟨b, 0, none⟩)] w fun e w' => e = .returned (.tuple #[]) ∧ (∃ r cap, w.heap.size ≤ r ∧ PopAt w' b q (.slice (some ⟨r, 0, none⟩) 1 cap) [t] most deep (s.get hd) (meth 150 b)) ∧ Mem w' p g (s.hit 1 hd (s.get hd) true) ∧ Else [b, p, g] w w' := by
  obtain ⟨c0, _, c2, c3, c4, c5⟩ := P.cells
  obtain ⟨k0, k1, _, _⟩ := E.cells
  have hq : q ∉ [p, g] := by simp [E.np, E.ng]
  have hb := A.b2
  have hbq := A.bq
  have hk := E.ok hd
  have hh := Lib.hid E.hasH
  have HE := Lib.hid E
  have HP := Lib.hid P
  have HA := Lib.hid A
  have HT := Lib.hid ht
  have hf := run_func
  have ht0 : ((t : Int) == -1) = false := by simp
  clear P E A ht
  go_enter Tryz.func138, Tryz.ntmps138
  go_upto_region 0 with fail
  go_region_held3 (fun w' => w'.cell? ⟨b, 0, none⟩ = some (.pointer (some ⟨q, 0, none⟩)) ∧ w'.cell? ⟨q, 0, none⟩ = some (.pointer (some ⟨p, 0, none⟩)) ∧ w'.cell? ⟨q, 1, none⟩ = some (.int .i64 hd)) ((first | exact ⟨c0, k0, k1⟩ | exact ⟨E1.kept c0 hb, E1.kept k0 hq, E1.kept k1 hq⟩ | exact ⟨kept_set (off_ne (by decide)) (E1.kept c0 hb), kept_set (ad_ne hbq) (E1.kept k0 hq), kept_set (ad_ne hbq) (E1.kept k1 hq)⟩))
    (first
      | (go_at_call 110; refine (load_in (HE.out.mem.up (up_drew w)) hh.out).mono ?_; rintro e w1 ⟨rfl, M1, E1⟩; have d3 := E1.kept (p := ⟨b, 4, none⟩) c4 hb; have g3 := (HP.out.else ((Else.of_up (up_drew w)).trans E1) HA.out.b2 HA.out.v2).top.frozen 4))
  have HE1 := Lib.hid ((Else.of_up (up_drew w)).trans E1)
  have P2 := Lib.hid ((HP.out.else HE1.out HA.out.b2 HA.out.v2).seen (s.get hd))
  have EE := Lib.hid ((HE.out.turn M1 HE1.out (HE.out.ok.hit 1 hd true hk.1 hk.2) (hit_len _ _ _ _ _)).self HA.out.bp HA.out.bg HA.out.bq 4 (.int .u64 (s.get hd)))
  have E3 : Else [b, p, g] w (w1.setCell ⟨b, 4, none⟩ (.int .u64 (s.get hd))) := else_self (HE1.out.wide b) (by simp)
  have E3 := Lib.hid E3
  clear d3 g3 M1 E1 HE1 c0 c2 c3 c4 c5 k0 k1
  generalize w1.setCell ⟨b, 4, none⟩ (.int .u64 (s.get hd)) = w2 at *
  have j2 := P2.out.cells.2.2.1
  have f2 := P2.out.top.frozen 2
  go_upto_region 2 with fail
  have P3 := Lib.hid (P2.out.items (v' := .slice none 0 0) (l' := []) (Ints.nil _) (by simp [Value.ownBlock]))
  have EF := Lib.hid (EE.out.self HA.out.bp HA.out.bg HA.out.bq 2 (.slice none 0 0))
  have E4 : Else [b, p, g] w (w2.setCell ⟨b, 2, none⟩ (.slice none 0 0)) := else_self E3.out (by simp)
  have E4 := Lib.hid E4
  clear j2 f2 P2 EE E3
  generalize w2.setCell ⟨b, 2, none⟩ (.slice none 0 0) = w3 at *
  have r0 := P3.out.cells.1
  have r4 := P3.out.cells.2.2.2.2.1
  go_region_held3 (fun w' => w'.cell? ⟨b, 0, none⟩ = some (.pointer (some ⟨q, 0, none⟩)) ∧ w'.cell? ⟨b, 4, none⟩ = some (.int .u64 (s.get hd))) ((first | exact ⟨r0, r4⟩ | exact ⟨U5.kept r0, U5.kept r4⟩))
    (first
      | (go_at_call 54; refine (ofHead_to (EF.out.up (up_drew w3)) hk.1 hk.2 HT.out).mono ?_; rintro e w5 ⟨rfl, U5⟩))
  have V := (up_drew w3).trans U5
  have P6 := Lib.hid (P3.out.up V)
  have M6 := Lib.hid (EF.out.mem.up V)
  have E6 := Lib.hid (E4.out.up V)
  clear r0 r4 V U5 P3 EF E4
  have j2 := P6.out.cells.2.2.1
  obtain ⟨i9, hi, hz0, hz1, hz2⟩ := info_parts info_int
  have g63 : 0 + 1 ≤ maxLen := by unfold maxLen; omega
  have gby : (0 + 1) * 8 ≤ 140737488355328 := by omega
  have gba : 0 ≤ (w5.alloc (.cells #[.int .i64 (t : Int)] 3)).heap.size := Nat.zero_le _
  have hH : (w5.alloc (.cells #[.int .i64 (t : Int)] 3)).heap.size = w5.heap.size + 1 := by simp
  go_wp2_with (at_builtin; refine wpList_append_lies _ rfl _ _ 22 rfl 0 3 i9 (.int .i64 0) 1 8 Tryz.underlying22 hi hz0 hz1 hz2 rfl (by decide) (.slice none 0 0) 0 [] rfl (World.ownsRow_nil _ _ _ _) ⟨w5.heap.size, 0, none⟩ 1 1 [.int .i64 (t : Int)] rfl rfl (one_new _ _ _) (by simp [Value.oneCell']) (by decide) g63 gby gba _ hH ?_; intro gg cap2 wD hownD hgrow hat hltD; have HO := Lib.hid hownD; have VD := ((Up.refl w5).then_alloc (.cells #[.int .i64 (t : Int)] 3)).grown hgrow (fun k hk => by simp [Value.ownBlock] at hk); have P7 := Lib.hid (P6.out.up VD); have M7 := Lib.hid (M6.out.up VD); have E7 := Lib.hid (E6.out.up VD); have y2 := P7.out.cells.2.2.1; have y5 := P7.out.cells.2.2.2.2.2; have f2 := P7.out.top.frozen 2; have f5 := P7.out.top.frozen 5; have hgb : gg ≠ b := (by have h6 := P6.out.top.lt; rcases hat with h | h; simp [Value.ownBlock] at h; omega); clear hownD hgrow VD)
  go_end0
  have hg1 : gg = w5.heap.size + 1 := by
    rcases hat with h | h
    · simp [Value.ownBlock] at h
    · exact h
  have hsz := E6.out.size
  refine ⟨rfl, ⟨gg, cap2, by omega, ?_⟩, (M7.out.self HA.out.bp HA.out.bg _ _).self HA.out.bp HA.out.bg _ _, else_self (else_self E7.out (by simp)) (by simp)⟩
  exact (P7.out.items (v' := .slice (some ⟨gg, 0, none⟩) 1 cap2) (l' := [t]) (ints_of_own HO.out rfl rfl) (by simp [Value.ownBlock]; exact hgb)).next _
end
end Go.Proofs.YtkopplnjomkleaaGreat

/-
  Package stack: the machine Pop: the Load of a link, the exchange, Step, Done.
-/
namespace Go.Proofs.YtkopplnjomkleaaGreat
open Go.RowKit
open W64
set_option maxRecDepth 100000
section
variable {w w' : World} {p g q hd ln n b most : Nat} {s : St} {v v' : Value} {l l' : List Nat} {deep old : Int} {nx : Value}

theorem popDone_no {f : FuncId} (c5 : w.cell? ⟨b, 5, none⟩ = some (meth f b)) :
    Calls Tryz.prog 140 #[.pointer (some ⟨b, 0, none⟩)] w fun e w' => e = .returned (.bool false) ∧ w = w' := by
  unfold meth at c5
  have h1 := run_eql_func
  go_enter Tryz.func140, Tryz.ntmps140
  go_wp2_with fail
  go_ret
  exact ⟨rfl, rfl⟩
theorem popDone_yes (c5 : w.cell? ⟨b, 5, none⟩ = some .nilFunc) :
    Calls Tryz.prog 140 #[.pointer (some ⟨b, 0, none⟩)] w fun e w' => e = .returned (.bool true) ∧ w = w' := by
  have h1 := run_eql_nilFunc
  go_enter Tryz.func140, Tryz.ntmps140
  go_wp2_with fail
  go_ret
  exact ⟨rfl, rfl⟩
theorem popStep_end (c5 : w.cell? ⟨b, 5, none⟩ = some .nilFunc) :
    Calls Tryz.prog 139 #[.pointer (some ⟨b, 0, none⟩)] w fun e w' => e = .returned (.bool false) ∧ w = w' := by
  have h1 := Lib.hid c5
  go_enter Tryz.func139, Tryz.ntmps139
  go_wp2_with (go_at_call 140; refine (popDone_yes h1.out).mono ?_; rintro e w' ⟨rfl, rfl⟩)
  go_ret
  exact ⟨rfl, rfl⟩
theorem popStep_load {R : World → Prop} (c5 : w.cell? ⟨b, 5, none⟩ = some (meth 138 b)) (h : Calls Tryz.prog 138 #[.pointer (some ⟨b, 0, none⟩)] w fun e w' => e = .returned (.tuple #[]) ∧ R w') :
    Calls Tryz.prog 139 #[.pointer (some ⟨b, 0, none⟩)] w fun e w' => e = .returned (.bool true) ∧ R w' := by
  have h1 := Lib.hid c5
  have H := Lib.hid h
  unfold meth at c5
  clear h
  go_enter Tryz.func139, Tryz.ntmps139
  go_wp2_with (first
    | (go_at_call 140; refine (popDone_no h1.out).mono ?_; rintro e w' ⟨rfl, rfl⟩)
    | (go_at_call 138; refine H.out.mono ?_; rintro e w2 ⟨rfl, r2⟩))
  go_ret
  exact ⟨rfl, r2⟩
theorem popStep_link {R : World → Prop} (c5 : w.cell? ⟨b, 5, none⟩ = some (meth 150 b)) (h : Calls Tryz.prog 150 #[.pointer (some ⟨b, 0, none⟩)] w fun e w' => e = .returned (.tuple #[]) ∧ R w') :
    Calls Tryz.prog 139 #[.pointer (some ⟨b, 0, none⟩)] w fun e w' => e = .returned (.bool true) ∧ R w' := by
  have h1 := Lib.hid c5
  have H := Lib.hid h
  unfold meth at c5
  clear h
  go_enter Tryz.func139, Tryz.ntmps139
  go_wp2_with (first
    | (go_at_call 140; refine (popDone_no h1.out).mono ?_; rintro e w' ⟨rfl, rfl⟩)
    | (go_at_call 150; refine H.out.mono ?_; rintro e w2 ⟨rfl, r2⟩))
  go_ret
  exact ⟨rfl, r2⟩
theorem popStep_turn {R : World → Prop} (c5 : w.cell? ⟨b, 5, none⟩ = some (meth 157 b)) (h : Calls Tryz.prog 157 #[.pointer (some ⟨b, 0, none⟩)] w fun e w' => e = .returned (.tuple #[]) ∧ R w') :
    Calls Tryz.prog 139 #[.pointer (some ⟨b, 0, none⟩)] w fun e w' => e = .returned (.bool true) ∧ R w' := by
  have h1 := Lib.hid c5
  have H := Lib.hid h
  unfold meth at c5
  clear h
  go_enter Tryz.func139, Tryz.ntmps139
  go_wp2_with (first
    | (go_at_call 140; refine (popDone_no h1.out).mono ?_; rintro e w' ⟨rfl, rfl⟩)
    | (go_at_call 157; refine H.out.mono ?_; rintro e w2 ⟨rfl, r2⟩))
  go_ret
  exact ⟨rfl, r2⟩

set_option maxHeartbeats 1000000 in
theorem spop_in (m : Int) {most : Nat} (hm : min (max m 1) 8 = most) :
    Calls Tryz.prog 112 #[.pointer (some ⟨q, 0, none⟩), .int .i64 m] w fun e w' => e = .returned (.pointer (some ⟨w.heap.size, 0, none⟩)) ∧ PopAt w' w.heap.size q (.slice none 0 0) [] most 0 0 (meth 138 w.heap.size) ∧ Up w w' := by
  have hf := run_func
  have key : ∀ w1 : World, w1 = (w.alloc (.cells #[.pointer (some ⟨q, 0, none⟩), .int .i64 most, .slice none 0 0, .int .i64 0, .int .u64 0, meth 138 w.heap.size] 197)) → PopAt w1 w.heap.size q (.slice none 0 0) [] most 0 0 (meth 138 w.heap.size) ∧ Up w w1 := by
    rintro w1 rfl
    exact ⟨⟨Whole.new _ _ _, Ints.nil _, by simp [Value.ownBlock]⟩, Up.alloc _ _⟩
  have HK := Lib.hid key
  clear key
  rcases (show m < 1 ∨ m = 1 ∨ (1 < m ∧ m < 8) ∨ m = 8 ∨ 8 < m by omega) with h | rfl | ⟨h, h2⟩ | rfl | h
  · have e : (most : Int) = 1 := by omega
    rw [e] at HK
    clear hm e
    go_enter Tryz.func112, Tryz.ntmps112
    go_wp2_with fail
    go_ret
    exact ⟨rfl, HK.out _ rfl⟩
  · have e : (most : Int) = 1 := by omega
    rw [e] at HK
    clear hm e
    go_enter Tryz.func112, Tryz.ntmps112
    go_wp2_with fail
    go_ret
    exact ⟨rfl, HK.out _ rfl⟩
  · have e : (most : Int) = m := by omega
    rw [e] at HK
    clear hm e
    go_enter Tryz.func112, Tryz.ntmps112
    go_wp2_with fail
    go_ret
    exact ⟨rfl, HK.out _ rfl⟩
  · have e : (most : Int) = 8 := by omega
    rw [e] at HK
    clear hm e
    go_enter Tryz.func112, Tryz.ntmps112
    go_wp2_with fail
    go_ret
    exact ⟨rfl, HK.out _ rfl⟩
  · have e : (most : Int) = 8 := by omega
    rw [e] at HK
    clear hm e
    go_enter Tryz.func112, Tryz.ntmps112
    go_wp2_with fail
    go_ret
    exact ⟨rfl, HK.out _ rfl⟩
set_option maxHeartbeats 1000000 in
theorem got_not {f : FuncId} (c5 : w.cell? ⟨b, 5, none⟩ = some (meth f b)) :
    Calls Tryz.prog 141 #[.pointer (some ⟨b, 0, none⟩)] w fun e w' => e = .returned (.slice none 0 0) ∧ w = w' := by
  have h1 := Lib.hid c5
  go_enter Tryz.func141, Tryz.ntmps141
  go_wp2_with (go_at_call 140; refine (popDone_no h1.out).mono ?_; rintro e w' ⟨rfl, rfl⟩)
  go_ret
  exact ⟨rfl, rfl⟩
set_option maxHeartbeats 1000000 in
theorem got_nil (P : PopAt w b q (.slice none 0 0) l most deep old .nilFunc) :
    Calls Tryz.prog 141 #[.pointer (some ⟨b, 0, none⟩)] w fun e w' => e = .returned (.slice none 0 0) ∧ w = w' := by
  have h1 := Lib.hid P.cells.2.2.2.2.2
  have h2 := P.cells.2.2.1
  go_enter Tryz.func141, Tryz.ntmps141
  go_wp2_with (first
    | (go_at_call 140; refine (popDone_yes h1.out).mono ?_; rintro e w' ⟨rfl, rfl⟩)
    | (go_at_call 106; refine (clone_nil _).mono ?_; rintro e w' ⟨rfl, rfl⟩))
  go_ret
  exact ⟨rfl, rfl⟩
set_option maxHeartbeats 1000000 in
theorem got_in (P : PopAt w b q v l most deep old .nilFunc) (hl0 : l ≠ []) (hl : l.length ≤ 8192) :
    Calls Tryz.prog 141 #[.pointer (some ⟨b, 0, none⟩)] w fun e w' => ∃ r cap, e = .returned (.slice (some ⟨r, 0, none⟩) l.length cap) ∧ Ints w' (.slice (some ⟨r, 0, none⟩) l.length cap) (I l) ∧ w.heap.size ≤ r ∧ r < w'.heap.size ∧ Up w w' := by
  have h1 := Lib.hid P.cells.2.2.2.2.2
  have h2 := P.cells.2.2.1
  have hc := clone_in P.row.rd (by simpa [I] using hl0) (by rw [I_len]; exact hl)
  rw [I_len] at hc
  have HC := Lib.hid hc
  clear hc
  go_enter Tryz.func141, Tryz.ntmps141
  go_wp2_with (first
    | (go_at_call 140; refine (popDone_yes h1.out).mono ?_; rintro e w' ⟨rfl, rfl⟩)
    | (go_at_call 106; refine HC.out.mono ?_; rintro e w' ⟨r, cap, rfl, i1, i2, i3, i4⟩))
  go_ret
  exact ⟨r, cap, rfl, i1, i2, i3, i4⟩
end
end Go.Proofs.YtkopplnjomkleaaGreat
