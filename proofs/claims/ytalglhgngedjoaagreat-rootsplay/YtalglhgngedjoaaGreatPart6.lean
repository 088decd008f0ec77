/-
  Texts beneath RootsPlay, part 6: Push, Push2, Push3.
-/
import Derived.Test.YtalglhgngedjoaaGreatPart5
import Derived.Laws.EntriesVeiled
/-
  Package stack: the machine Push.
-/
namespace Go.Proofs.YtalglhgngedjoaaGreat
open Go.RowKit
open W64
set_option maxRecDepth 100000

/-- A Push lies at b, over the stack at q: its items l lie at v; how many have their link; the head that it loaded; the next access. -/
structure PushAt (w : World) (b q : Nat) (v : Value) (l : List Nat) (i : Nat) (old : Int) (nx : Value) : Prop where
  top : Whole w b 151 #[.pointer (some ⟨q, 0, none⟩), v, .int .i64 i, .int .u64 old, nx]
  row : Ints w v (I l)
  away : v.ownBlock ≠ some b
section
variable {w w' : World} {p g q hd ln n b : Nat} {s : St} {v : Value} {l : List Nat} {i : Nat} {old : Int} {nx : Value}
theorem PushAt.up (P : PushAt w b q v l i old nx) (u : Up w w') : PushAt w' b q v l i old nx := ⟨P.top.up u, P.row.up u, P.away⟩
theorem PushAt.else (P : PushAt w b q v l i old nx) {t : List Nat} (u : Else t w w') (h1 : b ∉ t) (h2 : Away v t) : PushAt w' b q v l i old nx := ⟨u.whole P.top h1, P.row.else u h2, P.away⟩
theorem PushAt.cells (P : PushAt w b q v l i old nx) : w.cell? ⟨b, 0, none⟩ = some (.pointer (some ⟨q, 0, none⟩)) ∧ w.cell? ⟨b, 1, none⟩ = some v ∧ w.cell? ⟨b, 2, none⟩ = some (.int .i64 i) ∧ w.cell? ⟨b, 3, none⟩ = some (.int .u64 old) ∧ w.cell? ⟨b, 4, none⟩ = some nx :=
  ⟨P.top.cell rfl, P.top.cell rfl, P.top.cell rfl, P.top.cell rfl, P.top.cell rfl⟩
theorem PushAt.next (P : PushAt w b q v l i old nx) (nx' : Value) : PushAt (w.setCell ⟨b, 4, none⟩ nx') b q v l i old nx' :=
  ⟨P.top.set 4 nx', P.row.else (Else.set (s := [b]) (Else.refl [b] w) (p := ⟨b, 4, none⟩) (.inl (by simp)) nx') (by intro k hk; simp at hk; subst hk; exact P.away), P.away⟩
theorem PushAt.count (P : PushAt w b q v l i old nx) (i' : Nat) : PushAt (w.setCell ⟨b, 2, none⟩ (.int .i64 i')) b q v l i' old nx :=
  ⟨P.top.set 2 _, P.row.else (Else.set (s := [b]) (Else.refl [b] w) (p := ⟨b, 2, none⟩) (.inl (by simp)) _) (by intro k hk; simp at hk; subst hk; exact P.away), P.away⟩
theorem PushAt.seen (P : PushAt w b q v l i old nx) (old' : Int) : PushAt (w.setCell ⟨b, 3, none⟩ (.int .u64 old')) b q v l i old' nx :=
  ⟨P.top.set 3 _, P.row.else (Else.set (s := [b]) (Else.refl [b] w) (p := ⟨b, 3, none⟩) (.inl (by simp)) _) (by intro k hk; simp at hk; subst hk; exact P.away), P.away⟩
theorem Ints.get {l : List Nat} (h : Ints w v (I l)) (hl : l ≠ []) : ∃ r cap, v = .slice (some ⟨r, 0, none⟩) l.length cap ∧ ∀ j, j < l.length → w.cell? ⟨r, j, none⟩ = some (.int .i64 ((l.getD j 0 : Nat) : Int)) := by
  obtain ⟨A, cap, e⟩ := h.slice
  rw [I_len] at e
  rw [e] at h
  unfold Ints at h
  rw [I_len] at h
  obtain ⟨r, hr, _⟩ := own_cell h (List.length_pos_iff.2 hl)
  refine ⟨r, cap, by rw [e, hr], fun j hj => ?_⟩
  obtain ⟨r', hr', hc⟩ := own_cell h hj
  rw [hr] at hr'; injection hr' with e2; injection e2 with e2; subst e2
  rw [hc]; simp [I, List.getD, hj]
/-- linkOrLoad. -/
def nxL (b len i : Nat) : Value := if i + 1 < len then meth 128 b else meth 129 b
set_option maxHeartbeats 1000000 in
theorem linkOrLoad_in (P : PushAt w b q v l i old nx) (hl : l.length ≤ 8192) (hl0 : 1 ≤ l.length) :
    Calls Tryz.prog 109 #[.pointer (some ⟨b, 0, none⟩)] w fun e w' => e = .returned (.tuple #[]) ∧ PushAt w' b q v l i old (nxL b l.length i) ∧ Else [b] w w' := by
  obtain ⟨A, cap, rfl⟩ := P.row.slice
  rw [I_len] at *
  obtain ⟨_, c1, c2, _, c4⟩ := P.cells
  have f4 := P.top.frozen 4
  have hf := run_func
  have HP := Lib.hid P
  clear P
  have s1 : wrap64 ((l.length : Int) - 1) = l.length - 1 := wrap64_in (by omega) (by omega)
  have s2 : IntKind.i64.wrap ((l.length : Int) - 1) = l.length - 1 := IntWalk.i64_in _ (by omega)
  by_cases h : i + 1 < l.length
  · have e : nxL b l.length i = meth 128 b := by unfold nxL; rw [if_pos h]
    rw [e]
    have h1 : (i : Int) < (l.length : Int) - 1 := by omega
    go_enter Tryz.func109, Tryz.ntmps109
    go_upto_region 0 with fail
    go_quiet (fail)
    go_wp2_with fail
    go_end0
    exact ⟨rfl, (HP.out.up (Up.drewN w _)).next _, (Else.of_up (Up.drewN w _)).set (.inl (by simp)) _⟩
  · have e : nxL b l.length i = meth 129 b := by unfold nxL; rw [if_neg h]
    rw [e]
    have h1 : ¬ (i : Int) < (l.length : Int) - 1 := by omega
    go_enter Tryz.func109, Tryz.ntmps109
    go_upto_region 0 with fail
    go_quiet (fail)
    go_wp2_with fail
    go_end0
    exact ⟨rfl, (HP.out.up (Up.drewN w _)).next _, (Else.of_up (Up.drewN w _)).set (.inl (by simp)) _⟩

set_option maxHeartbeats 2000000 in
theorem sstoreLink_in (E : Env w p g q hd ln n s) {x y : Int} (x0 : 0 ≤ x) (x1 : x < n) (y0 : -1 ≤ y) (y1 : y < n) :
    Calls Tryz.prog 137 #[.pointer (some ⟨q, 0, none⟩), .int .i64 x, .int .i64 y] w fun e w' => e = .returned (.tuple #[]) ∧ Mem w' p g (s.hit 2 (ln + x) (y + 1) true) ∧ Else [p, g] w w' := by
  obtain ⟨c0, _, c2, _⟩ := E.cells
  have hq : q ∉ [p, g] := by simp [E.np, E.ng]
  have n1 := E.n1
  have hl := E.hl
  have ht := E.top
  have s1 : wrap64 ((ln : Int) + x) = ln + x := wrap64_in (by omega) (by omega)
  have s2 : IntKind.i64.wrap ((ln : Int) + x) = ln + x := IntWalk.i64_in _ (by omega)
  have hh := Lib.hid (E.hasL x0 x1)
  have HM := Lib.hid E.mem
  clear E
  go_enter Tryz.func137, Tryz.ntmps137
  go_upto_region 0 with fail
  go_region_held3 (fun w' => w'.cell? ⟨q, 0, none⟩ = some (.pointer (some ⟨p, 0, none⟩)) ∧ w'.cell? ⟨q, 2, none⟩ = some (.int .i64 ln)) ((first | exact ⟨c0, c2⟩ | exact ⟨E1.kept c0 hq, E1.kept c2 hq⟩))
    (first
      | (go_at_call 115; refine (asLink_any y y0 (by omega) _).mono ?_; rintro e w5 ⟨rfl, rfl⟩)
      | (go_at_call 140; refine (store_in _ (HM.out.up (up_drew w)) hh.out).mono ?_; rintro e w1 ⟨rfl, M1, E1⟩))
  go_wp2_with fail
  go_end0
  exact ⟨rfl, M1, (Else.of_up (up_drew w)).trans E1⟩
theorem nextW_is {x i : Int} (i0 : -1 ≤ i) (i1 : i ≤ 4096) : headB i (nextT (x / 4294967296)) = true ∧ headN i (nextT (x / 4294967296)) = nextW x i := by
  have h : headB i (nextT (x / 4294967296)) = true := by
    rw [headB_iff]
    unfold nextT inB
    refine ⟨⟨i0, by omega⟩, ?_⟩
    split
    · rename_i h; simp at h; omega
    · omega
  exact ⟨h, by unfold nextW headV; rw [if_pos h]⟩
set_option maxHeartbeats 2000000 in
theorem sturn_any (E : Env w p g q hd ln n s) {x i : Int} (h0 : 0 ≤ x) (h1 : x < 18446744073709551616) (i0 : -1 ≤ i) (i1 : i < n) {c : Bool} {s' : St}
    (hc : ∀ {w1 : World}, Mem w1 p g s → Calls Tryz.prog 126 #[.pointer (some ⟨p, 0, none⟩), .int .i64 hd, .int .u64 x, .int .u64 (nextW x i)] w1 fun e w' => e = .returned (.tuple #[.bool c, .int .i64 0]) ∧ Mem w' p g s' ∧ Else [p, g] w1 w') :
    Calls Tryz.prog 143 #[.pointer (some ⟨q, 0, none⟩), .int .u64 x, .int .i64 i] w fun e w' => e = .returned (.bool c) ∧ Mem w' p g s' ∧ Else [p, g] w w' := by
  obtain ⟨c0, c1, _, _⟩ := E.cells
  have hq : q ∉ [p, g] := by simp [E.np, E.ng]
  have n1 := E.n1
  obtain ⟨b1, b2⟩ := nextW_is (x := x) i0 (by omega)
  have HB := Lib.hid b1
  have HM := Lib.hid E.mem
  have HC := Lib.hid (fun w1 => @hc w1)
  rw [← b2] at HC
  clear E b1 b2 hc
  go_enter Tryz.func143, Tryz.ntmps143
  go_upto_region 2 with (first
    | (go_at_call 122; refine (getHead_any x _ h0 h1).mono ?_; rintro e w1 ⟨rfl, U1⟩)
    | (go_at_call 145; refine (next_any _ _ _ _).mono ?_; rintro e w2 ⟨rfl, U2⟩)
    | (go_at_call 116; refine (putHead_yes _ _ _ HB.out).mono ?_; rintro e w3 ⟨rfl, U3⟩))
  have U := (U1.trans U2).trans U3
  have HU := Lib.hid (U.trans (up_drew w3))
  replace c0 := U.kept c0
  replace c1 := U.kept c1
  clear U1 U2 U3 U
  go_region_held3 (fun w' => w'.cell? ⟨q, 0, none⟩ = some (.pointer (some ⟨p, 0, none⟩)) ∧ w'.cell? ⟨q, 1, none⟩ = some (.int .i64 hd)) ((first | exact ⟨c0, c1⟩ | exact ⟨E4.kept c0 hq, E4.kept c1 hq⟩))
    (first
      | (go_at_call 126; refine (HC.out _ (HM.out.up HU.out)).mono ?_; rintro e w4 ⟨rfl, M4, E4⟩))
  go_wp2_with fail
  go_ret
  exact ⟨rfl, M4, (Else.of_up HU.out).trans E4⟩
theorem sturn_yes (E : Env w p g q hd ln n s) {x i : Int} (i0 : -1 ≤ i) (i1 : i < n) (hx : s.get hd = x) :
    Calls Tryz.prog 143 #[.pointer (some ⟨q, 0, none⟩), .int .u64 x, .int .i64 i] w fun e w' => e = .returned (.bool true) ∧ Mem w' p g (s.hit 3 hd (nextW x i) true) ∧ Else [p, g] w w' := by
  have hk := E.ok hd
  rw [hx] at hk
  exact sturn_any E hk.1 hk.2 i0 i1 (fun m => cas_yes _ m E.hasH hx)
theorem sturn_no (E : Env w p g q hd ln n s) {x i : Int} (h0 : 0 ≤ x) (h1 : x < 18446744073709551616) (i0 : -1 ≤ i) (i1 : i < n) (hx : s.get hd ≠ x) :
    Calls Tryz.prog 143 #[.pointer (some ⟨q, 0, none⟩), .int .u64 x, .int .i64 i] w fun e w' => e = .returned (.bool false) ∧ Mem w' p g (s.hit 3 hd (s.get hd) false) ∧ Else [p, g] w w' :=
  sturn_any E h0 h1 i0 i1 (fun m => cas_no _ m E.hasH hx)
end
end Go.Proofs.YtalglhgngedjoaaGreat

/-
  Package stack: the machine Push, its accesses.
-/
namespace Go.Proofs.YtalglhgngedjoaaGreat
open Go.RowKit
open W64
set_option maxRecDepth 100000
section
variable {w w' : World} {p g q hd ln n b : Nat} {s : St} {v : Value} {l : List Nat} {i : Nat} {old : Int} {nx : Value}
/-- A machine lies apart from the stack and its memory. -/
structure Apart (b p g q : Nat) (v : Value) : Prop where
  bp : b ≠ p
  bg : b ≠ g
  bq : b ≠ q
  vp : v.ownBlock ≠ some p
  vg : v.ownBlock ≠ some g
  vq : v.ownBlock ≠ some q
theorem Apart.b2 {v : Value} (A : Apart b p g q v) : b ∉ [p, g] := by simp [A.bp, A.bg]
theorem Apart.v2 {v : Value} (A : Apart b p g q v) : Away v [p, g] := by
  intro k hk; simp at hk; rcases hk with rfl | rfl
  · exact A.vp
  · exact A.vg
theorem PushAt.count1 (P : PushAt w b q v l i old nx) : PushAt (w.setCell ⟨b, 2, none⟩ (.int .i64 ((i : Int) + 1))) b q v l (i + 1) old nx := P.count (i + 1)
set_option maxHeartbeats 2000000 in
theorem push_link (E : Env w p g q hd ln n s) (P : PushAt w b q v l i old nx) (A : Apart b p g q v) (hi : i + 1 < l.length) (hn : ∀ x ∈ l, x < n) (hl : l.length ≤ 8192) :
    Calls Tryz.prog 128 #[.pointer (some ⟨b, 0, none⟩)] w fun e w' => e = .returned (.tuple #[]) ∧ PushAt w' b q v l (i + 1) old (nxL b l.length (i + 1)) ∧ Mem w' p g (s.hit 2 (ln + (l.getD i 0 : Nat)) ((l.getD (i + 1) 0 : Nat) + 1) true) ∧ Else [b, p, g] w w' := by
  obtain ⟨r, cap, rfl, ds⟩ := P.row.get (by intro e; simp [e] at hi)
  have d0 := ds i (by omega)
  have d1 := ds (i + 1) (by omega)
  clear ds
  obtain ⟨c0, c1, c2, _, _⟩ := P.cells
  have m0 := hn _ (Stk.getD_mem (show i < l.length by omega))
  have m1 := hn _ (Stk.getD_mem (show i + 1 < l.length by omega))
  generalize l.getD i 0 = x at *
  generalize l.getD (i + 1) 0 = y at *
  have i0 : (0 : Int) ≤ (i : Int) := Int.natCast_nonneg _
  have i1 : (i : Int) < (l.length : Int) := by omega
  have i2 : (i : Int) + 1 < (l.length : Int) := by omega
  have i3 : (0 : Int) ≤ (i : Int) + 1 := by omega
  have s2 : IntKind.i64.wrap ((i : Int) + 1) = (i : Int) + 1 := IntWalk.i64_in _ (by omega)
  have hb := A.b2
  have hr : r ∉ [p, g] := fun hk => A.v2 r hk rfl
  have HP := Lib.hid P
  have HE := Lib.hid E
  have HA := Lib.hid A
  clear P E A hn
  go_enter Tryz.func128, Tryz.ntmps128
  go_upto_region 0 with fail
  go_region_held3 (fun w' => w'.cell? ⟨b, 0, none⟩ = some (.pointer (some ⟨q, 0, none⟩)) ∧ w'.cell? ⟨b, 1, none⟩ = some (.slice (some ⟨r, 0, none⟩) l.length cap) ∧ w'.cell? ⟨b, 2, none⟩ = some (.int .i64 i) ∧ w'.cell? ⟨r, i, none⟩ = some (.int .i64 x) ∧ w'.cell? ⟨r, i + 1, none⟩ = some (.int .i64 y)) ((first | exact ⟨c0, c1, c2, d0, d1⟩ | exact ⟨E1.kept c0 hb, E1.kept c1 hb, E1.kept c2 hb, E1.kept d0 hr, E1.kept d1 hr⟩))
    (first
      | (go_at_call 137; refine (sstoreLink_in (HE.out.up (up_drew w)) (x := x) (y := y) (by omega) (by omega) (by omega) (by omega)).mono ?_; rintro e w1 ⟨rfl, M1, E1⟩))
  have E2 := Lib.hid ((Else.of_up (up_drew w)).trans E1)
  have P1 := Lib.hid (HP.out.else E2.out HA.out.b2 HA.out.v2)
  have k2 := P1.out.cells.2.2.1
  have f2 := P1.out.top.frozen 2
  have M2 := Lib.hid M1
  clear M1 E1
  go_wp2_with (go_at_call 109; refine (linkOrLoad_in (i := i + 1) (P1.out.count1) hl (by omega)).mono ?_; rintro e w3 ⟨rfl, P3, E3⟩)
  go_end0
  have E4 : Else [b, p, g] w (w1.setCell ⟨b, 2, none⟩ (.int .i64 ((i : Int) + 1))) := else_self (E2.out.wide b) (by simp)
  refine ⟨rfl, P3, ?_, E4.trans (E3.wide1 p g)⟩
  have M3 := M2.out.else (l := [b]) (Else.set (Else.refl [b] w1) (p := ⟨b, 2, none⟩) (.inl (by simp)) (.int .i64 ((i : Int) + 1))) (by simp [HA.out.bp.symm]) (by simp [HA.out.bg.symm])
  exact M3.else E3 (by simp [HA.out.bp.symm]) (by simp [HA.out.bg.symm])

set_option maxHeartbeats 2000000 in
theorem push_load (E : Env w p g q hd ln n s) (P : PushAt w b q v l i old nx) (A : Apart b p g q v) :
    Calls Tryz.prog 129 #[.pointer (some ⟨b, 0, none⟩)] w fun e w' => e = .returned (.tuple #[]) ∧ PushAt w' b q v l i (s.get hd) (meth 138 b) ∧ Mem w' p g (s.hit 1 hd (s.get hd) true) ∧ Else [b, p, g] w w' := by
  obtain ⟨c0, _, _, c3, c4⟩ := P.cells
  obtain ⟨k0, k1, _, _⟩ := E.cells
  have hq : q ∉ [p, g] := by simp [E.np, E.ng]
  have hb := A.b2
  have hbq := A.bq
  have f3 := P.top.frozen 3
  have hh := Lib.hid E.hasH
  have HM := Lib.hid E.mem
  have HP := Lib.hid P
  have HA := Lib.hid A
  have hf := run_func
  clear P E A
  go_enter Tryz.func129, Tryz.ntmps129
  go_upto_region 0 with fail
  go_region_held3 (fun w' => w'.cell? ⟨b, 0, none⟩ = some (.pointer (some ⟨q, 0, none⟩)) ∧ w'.cell? ⟨q, 0, none⟩ = some (.pointer (some ⟨p, 0, none⟩)) ∧ w'.cell? ⟨q, 1, none⟩ = some (.int .i64 hd)) ((first | exact ⟨c0, k0, k1⟩ | exact ⟨E1.kept c0 hb, E1.kept k0 hq, E1.kept k1 hq⟩ | exact ⟨kept_set (off_ne (by decide)) (E1.kept c0 hb), kept_set (ad_ne hbq) (E1.kept k0 hq), kept_set (ad_ne hbq) (E1.kept k1 hq)⟩))
    (first
      | (go_at_call 100; refine (load_in (HM.out.up (up_drew w)) hh.out).mono ?_; rintro e w1 ⟨rfl, M1, E1⟩; have d3 := E1.kept (p := ⟨b, 3, none⟩) c3 hb; have g3 := (HP.out.else ((Else.of_up (up_drew w)).trans E1) HA.out.b2 HA.out.v2).top.frozen 3))
  have P2 := Lib.hid ((HP.out.else ((Else.of_up (up_drew w)).trans E1) HA.out.b2 HA.out.v2).seen (s.get hd))
  have j4 := P2.out.cells.2.2.2.2
  have f4 := P2.out.top.frozen 4
  clear d3 g3
  go_wp2_with fail
  go_end0
  have E3 : Else [b, p, g] w (w1.setCell ⟨b, 3, none⟩ (.int .u64 (s.get hd))) := else_self (((Else.of_up (up_drew w)).trans E1).wide b) (by simp)
  refine ⟨rfl, P2.out.next _, ?_, else_self E3 (by simp)⟩
  have M3 := M1.else (l := [b]) (Else.set (Else.refl [b] w1) (p := ⟨b, 3, none⟩) (.inl (by simp)) (.int .u64 (s.get hd))) (by simp [HA.out.bp.symm]) (by simp [HA.out.bg.symm])
  exact M3.else (l := [b]) (Else.set (Else.refl [b] _) (p := ⟨b, 4, none⟩) (.inl (by simp)) _) (by simp [HA.out.bp.symm]) (by simp [HA.out.bg.symm])
end
end Go.Proofs.YtalglhgngedjoaaGreat

/-
  Package stack: the machine Push, its last accesses, Step, Done.
-/
namespace Go.Proofs.YtalglhgngedjoaaGreat
open Go.RowKit
open W64
set_option maxRecDepth 100000
section
variable {w w' : World} {p g q hd ln n b : Nat} {s : St} {v : Value} {l : List Nat} {i : Nat} {old : Int} {nx : Value}
theorem topN_in {x : Int} (_ : 0 ≤ x) (hn : 1 ≤ n) : -1 ≤ topN n x ∧ topN n x < n := by
  unfold topN; split <;> omega
theorem belowN_in {x : Int} (h : 0 ≤ x) (hn : 1 ≤ n) : -1 ≤ belowN n x ∧ belowN n x < n := by
  unfold belowN; split <;> omega
set_option maxHeartbeats 4000000 in
theorem push_last (E : Env w p g q hd ln n s) (P : PushAt w b q v l i old nx) (A : Apart b p g q v) (hl0 : l ≠ []) (hn : ∀ x ∈ l, x < n) (hl : l.length ≤ 8192) (h0 : 0 ≤ old) (h1 : old < 18446744073709551616) :
    Calls Tryz.prog 138 #[.pointer (some ⟨b, 0, none⟩)] w fun e w' => e = .returned (.tuple #[]) ∧ PushAt w' b q v l i old (meth 142 b) ∧ Mem w' p g (s.hit 2 (ln + (l.getD (l.length - 1) 0 : Nat)) (topN n old + 1) true) ∧ Else [b, p, g] w w' := by
  obtain ⟨r, cap, rfl, ds⟩ := P.row.get hl0
  have lp := List.length_pos_iff.2 hl0
  have d0 := ds (l.length - 1) (by omega)
  clear ds
  obtain ⟨c0, c1, _, c3, c4⟩ := P.cells
  have m0 := hn _ (Stk.getD_mem (show l.length - 1 < l.length by omega))
  obtain ⟨t0, t1⟩ := topN_in h0 E.n0
  generalize l.getD (l.length - 1) 0 = x at *
  obtain ⟨y, hy⟩ : ∃ y, topN n old = y := ⟨_, rfl⟩
  rw [hy] at t0 t1 ⊢
  obtain ⟨k, hk⟩ : ∃ k, l.length = k + 1 := ⟨l.length - 1, by omega⟩
  have hk1 : l.length - 1 = k := by omega
  rw [hk1] at d0
  rw [hk] at c1
  have i0 : (0 : Int) ≤ (k : Int) := Int.natCast_nonneg _
  have i1 : (k : Int) < ((k + 1 : Nat) : Int) := by omega
  have s1 : wrap64 (((k + 1 : Nat) : Int) - 1) = k := by rw [wrap64_in (by omega) (by omega)]; omega
  have s2 : IntKind.i64.wrap (((k + 1 : Nat) : Int) - 1) = k := by rw [IntWalk.i64_in _ (by omega)]; omega
  obtain ⟨K, hK⟩ : ∃ K : Nat, K = k + 1 := ⟨_, rfl⟩
  rw [← hK] at s1 s2 i1 c1
  have hb := A.b2
  have hr : r ∉ [p, g] := fun hk => A.v2 r hk rfl
  have HP := Lib.hid P
  have HE := Lib.hid E
  have HA := Lib.hid A
  have HY := Lib.hid hy
  have hf := run_func
  clear P E A hn hy hk hk1 hK
  go_enter Tryz.func138, Tryz.ntmps138
  go_upto_region 0 with fail
  go_region_held3 (fun w' => w'.cell? ⟨b, 0, none⟩ = some (.pointer (some ⟨q, 0, none⟩)) ∧ w'.cell? ⟨b, 1, none⟩ = some (.slice (some ⟨r, 0, none⟩) K cap) ∧ w'.cell? ⟨b, 3, none⟩ = some (.int .u64 old) ∧ w'.cell? ⟨r, k, none⟩ = some (.int .i64 x)) ((first | exact ⟨c0, c1, c3, d0⟩ | exact ⟨U1.kept c0, U1.kept c1, U1.kept c3, U1.kept d0⟩ | exact ⟨E2.kept (U1.kept c0) hb, E2.kept (U1.kept c1) hb, E2.kept (U1.kept c3) hb, E2.kept (U1.kept d0) hr⟩))
    (first
      | (go_at_call 94; refine (ofHead_to (HE.out.up (up_drew w)) h0 h1 HY.out).mono ?_; rintro e w1 ⟨rfl, U1⟩)
      | (go_at_call 137; refine (sstoreLink_in (HE.out.up ((up_drew w).trans U1)) (x := x) (y := y) (by omega) (by omega) t0 t1).mono ?_; rintro e w2 ⟨rfl, M2, E2⟩))
  have E3 := Lib.hid ((Else.of_up ((up_drew w).trans U1)).trans E2)
  have P2 := Lib.hid (HP.out.else E3.out HA.out.b2 HA.out.v2)
  have j4 := P2.out.cells.2.2.2.2
  have f4 := P2.out.top.frozen 4
  go_wp2_with fail
  go_end0
  refine ⟨rfl, P2.out.next _, ?_, else_self (E3.out.wide b) (by simp)⟩
  exact M2.else (l := [b]) (Else.set (Else.refl [b] _) (p := ⟨b, 4, none⟩) (.inl (by simp)) _) (by simp [HA.out.bp.symm]) (by simp [HA.out.bg.symm])

set_option maxHeartbeats 2000000 in
theorem push_turn (E : Env w p g q hd ln n s) (P : PushAt w b q v l i old nx) (A : Apart b p g q v) (hl0 : l ≠ []) {c : Bool} {s' : St}
    (hc : ∀ {w1 : World}, Env w1 p g q hd ln n s → Calls Tryz.prog 143 #[.pointer (some ⟨q, 0, none⟩), .int .u64 old, .int .i64 (l.getD 0 0 : Nat)] w1 fun e w' => e = .returned (.bool c) ∧ Mem w' p g s' ∧ Else [p, g] w1 w') :
    Calls Tryz.prog 142 #[.pointer (some ⟨b, 0, none⟩)] w fun e w' => e = .returned (.tuple #[]) ∧ PushAt w' b q v l i old (if c then .nilFunc else meth 129 b) ∧ Mem w' p g s' ∧ Else [b, p, g] w w' := by
  obtain ⟨r, cap, rfl, ds⟩ := P.row.get hl0
  have lp := List.length_pos_iff.2 hl0
  have d0 := ds 0 lp
  clear ds
  obtain ⟨c0, c1, _, c3, c4⟩ := P.cells
  generalize l.getD 0 0 = x at *
  have i1 : (0 : Int) < (l.length : Int) := by omega
  have hb := A.b2
  have hr : r ∉ [p, g] := fun hk => A.v2 r hk rfl
  have HP := Lib.hid P
  have HA := Lib.hid A
  have HC := Lib.hid (hc (E.up (up_drew w)))
  have hf := run_func
  clear P E A hc
  cases c
  · go_enter Tryz.func142, Tryz.ntmps142
    go_upto_region 0 with fail
    go_region_held3 (fun w' => w'.cell? ⟨b, 0, none⟩ = some (.pointer (some ⟨q, 0, none⟩)) ∧ w'.cell? ⟨b, 1, none⟩ = some (.slice (some ⟨r, 0, none⟩) l.length cap) ∧ w'.cell? ⟨b, 3, none⟩ = some (.int .u64 old) ∧ w'.cell? ⟨r, 0, none⟩ = some (.int .i64 x)) ((first | exact ⟨c0, c1, c3, d0⟩ | exact ⟨E2.kept c0 hb, E2.kept c1 hb, E2.kept c3 hb, E2.kept d0 hr⟩))
      (first
        | (go_at_call 143; refine HC.out.mono ?_; rintro e w2 ⟨rfl, M2, E2⟩))
    have E3 := Lib.hid ((Else.of_up (up_drew w)).trans E2)
    have P2 := Lib.hid (HP.out.else E3.out HA.out.b2 HA.out.v2)
    have j4 := P2.out.cells.2.2.2.2
    have f4 := P2.out.top.frozen 4
    go_wp2_with fail
    go_end0
    refine ⟨rfl, P2.out.next _, ?_, else_self (E3.out.wide b) (by simp)⟩
    exact M2.else (l := [b]) (Else.set (Else.refl [b] _) (p := ⟨b, 4, none⟩) (.inl (by simp)) _) (by simp [HA.out.bp.symm]) (by simp [HA.out.bg.symm])
  · go_enter Tryz.func142, Tryz.ntmps142
    go_upto_region 0 with fail
    go_region_held3 (fun w' => w'.cell? ⟨b, 0, none⟩ = some (.pointer (some ⟨q, 0, none⟩)) ∧ w'.cell? ⟨b, 1, none⟩ = some (.slice (some ⟨r, 0, none⟩) l.length cap) ∧ w'.cell? ⟨b, 3, none⟩ = some (.int .u64 old) ∧ w'.cell? ⟨r, 0, none⟩ = some (.int .i64 x)) ((first | exact ⟨c0, c1, c3, d0⟩ | exact ⟨E2.kept c0 hb, E2.kept c1 hb, E2.kept c3 hb, E2.kept d0 hr⟩))
      (first
        | (go_at_call 143; refine HC.out.mono ?_; rintro e w2 ⟨rfl, M2, E2⟩))
    have E3 := Lib.hid ((Else.of_up (up_drew w)).trans E2)
    have P2 := Lib.hid (HP.out.else E3.out HA.out.b2 HA.out.v2)
    have j4 := P2.out.cells.2.2.2.2
    have f4 := P2.out.top.frozen 4
    go_wp2_with fail
    go_end0
    refine ⟨rfl, P2.out.next _, ?_, else_self (E3.out.wide b) (by simp)⟩
    exact M2.else (l := [b]) (Else.set (Else.refl [b] _) (p := ⟨b, 4, none⟩) (.inl (by simp)) _) (by simp [HA.out.bp.symm]) (by simp [HA.out.bg.symm])

/-! ### Done, Step -/
theorem pushDone_no {f : FuncId} (c4 : w.cell? ⟨b, 4, none⟩ = some (meth f b)) :
    Calls Tryz.prog 48 #[.pointer (some ⟨b, 0, none⟩)] w fun e w' => e = .returned (.bool false) ∧ w = w' := by
  unfold meth at c4
  have h1 := run_eql_func
  go_enter Tryz.func48, Tryz.ntmps48
  go_wp2_with fail
  go_ret
  exact ⟨rfl, rfl⟩
theorem pushDone_yes (c4 : w.cell? ⟨b, 4, none⟩ = some .nilFunc) :
    Calls Tryz.prog 48 #[.pointer (some ⟨b, 0, none⟩)] w fun e w' => e = .returned (.bool true) ∧ w = w' := by
  have h1 := run_eql_nilFunc
  go_enter Tryz.func48, Tryz.ntmps48
  go_wp2_with fail
  go_ret
  exact ⟨rfl, rfl⟩
theorem pushStep_end (c4 : w.cell? ⟨b, 4, none⟩ = some .nilFunc) :
    Calls Tryz.prog 46 #[.pointer (some ⟨b, 0, none⟩)] w fun e w' => e = .returned (.bool false) ∧ w = w' := by
  have h1 := Lib.hid c4
  go_enter Tryz.func46, Tryz.ntmps46
  go_wp2_with (go_at_call 48; refine (pushDone_yes h1.out).mono ?_; rintro e w' ⟨rfl, rfl⟩)
  go_ret
  exact ⟨rfl, rfl⟩
theorem pushStep_link {R : World → Prop} (c4 : w.cell? ⟨b, 4, none⟩ = some (meth 128 b)) (h : Calls Tryz.prog 128 #[.pointer (some ⟨b, 0, none⟩)] w fun e w' => e = .returned (.tuple #[]) ∧ R w') :
    Calls Tryz.prog 46 #[.pointer (some ⟨b, 0, none⟩)] w fun e w' => e = .returned (.bool true) ∧ R w' := by
  have h1 := Lib.hid c4
  have H := Lib.hid h
  unfold meth at c4
  clear h
  go_enter Tryz.func46, Tryz.ntmps46
  go_wp2_with (first
    | (go_at_call 48; refine (pushDone_no h1.out).mono ?_; rintro e w' ⟨rfl, rfl⟩)
    | (go_at_call 128; refine H.out.mono ?_; rintro e w2 ⟨rfl, r2⟩))
  go_ret
  exact ⟨rfl, r2⟩
theorem pushStep_load {R : World → Prop} (c4 : w.cell? ⟨b, 4, none⟩ = some (meth 129 b)) (h : Calls Tryz.prog 129 #[.pointer (some ⟨b, 0, none⟩)] w fun e w' => e = .returned (.tuple #[]) ∧ R w') :
    Calls Tryz.prog 46 #[.pointer (some ⟨b, 0, none⟩)] w fun e w' => e = .returned (.bool true) ∧ R w' := by
  have h1 := Lib.hid c4
  have H := Lib.hid h
  unfold meth at c4
  clear h
  go_enter Tryz.func46, Tryz.ntmps46
  go_wp2_with (first
    | (go_at_call 48; refine (pushDone_no h1.out).mono ?_; rintro e w' ⟨rfl, rfl⟩)
    | (go_at_call 129; refine H.out.mono ?_; rintro e w2 ⟨rfl, r2⟩))
  go_ret
  exact ⟨rfl, r2⟩
theorem pushStep_last {R : World → Prop} (c4 : w.cell? ⟨b, 4, none⟩ = some (meth 138 b)) (h : Calls Tryz.prog 138 #[.pointer (some ⟨b, 0, none⟩)] w fun e w' => e = .returned (.tuple #[]) ∧ R w') :
    Calls Tryz.prog 46 #[.pointer (some ⟨b, 0, none⟩)] w fun e w' => e = .returned (.bool true) ∧ R w' := by
  have h1 := Lib.hid c4
  have H := Lib.hid h
  unfold meth at c4
  clear h
  go_enter Tryz.func46, Tryz.ntmps46
  go_wp2_with (first
    | (go_at_call 48; refine (pushDone_no h1.out).mono ?_; rintro e w' ⟨rfl, rfl⟩)
    | (go_at_call 138; refine H.out.mono ?_; rintro e w2 ⟨rfl, r2⟩))
  go_ret
  exact ⟨rfl, r2⟩
theorem pushStep_turn {R : World → Prop} (c4 : w.cell? ⟨b, 4, none⟩ = some (meth 142 b)) (h : Calls Tryz.prog 142 #[.pointer (some ⟨b, 0, none⟩)] w fun e w' => e = .returned (.tuple #[]) ∧ R w') :
    Calls Tryz.prog 46 #[.pointer (some ⟨b, 0, none⟩)] w fun e w' => e = .returned (.bool true) ∧ R w' := by
  have h1 := Lib.hid c4
  have H := Lib.hid h
  unfold meth at c4
  clear h
  go_enter Tryz.func46, Tryz.ntmps46
  go_wp2_with (first
    | (go_at_call 48; refine (pushDone_no h1.out).mono ?_; rintro e w' ⟨rfl, rfl⟩)
    | (go_at_call 142; refine H.out.mono ?_; rintro e w2 ⟨rfl, r2⟩))
  go_ret
  exact ⟨rfl, r2⟩
end
end Go.Proofs.YtalglhgngedjoaaGreat
