/-
  Package stack: the machine Push, its last accesses, Step, Done.
-/
import Derived.Test.YtalhbebpoohgkaaPush2
namespace Go.Proofs.Ytalhbebpoohgkaa
open Go.RowKit
open W64
set_option maxRecDepth 100000
section
variable {w w' : World} {p g q hd ln n b : Nat} {s : St} {v : Value} {l : List Nat} {i : Nat} {old : Int} {nx : Value}
theorem topN_in {x : Int} (_ : 0 ≤ x) (hn : 1 ≤ n) : -1 ≤ topN n x ∧ topN n x < n := by
  unfold topN; split <;> omega
theorem belowN_in {x : Int} (h : 0 ≤ x) (hn : 1 ≤ n) : -1 ≤ belowN n x ∧ belowN n x < n := by
  unfold belowN; split <;> omega
set_option maxHeartbeats 4000000 in
theorem push_last (E : Env w p g q hd ln n s) (P : PushAt w b q v l i old nx) (A : Apart b p g q v) (hl0 : l ≠ []) (hn : ∀ x ∈ l, x < n) (hl : l.length ≤ 8192) (h0 : 0 ≤ old) (h1 : old < 18446744073709551616) :
    Calls Try.prog 72 #[.pointer (some ⟨b, 0, none⟩)] w fun e w' => e = .returned (.tuple #[]) ∧ PushAt w' b q v l i old (meth 80 b) ∧ Mem w' p g (s.hit 2 (ln + (l.getD (l.length - 1) 0 : Nat)) (topN n old + 1) true) ∧ Else [b, p, g] w w' := by
  obtain ⟨r, cap, rfl, ds⟩ := P.row.get hl0
  have lp := List.length_pos_iff.2 hl0
  have d0 := ds (l.length - 1) (by omega)
  clear ds
  obtain ⟨c0, c1, _, c3, c4⟩ := P.cells
  have m0 := hn _ (Stk.getD_mem (show l.length - 1 < l.length by omega))
  obtain ⟨t0, t1⟩ := topN_in h0 E.n0
  generalize l.getD (l.length - 1) 0 = x at *
  obtain ⟨y, hy⟩ : ∃ y, topN n old = y := ⟨_, rfl⟩
  rw [hy] at t0 t1 ⊢
  obtain ⟨k, hk⟩ : ∃ k, l.length = k + 1 := ⟨l.length - 1, by omega⟩
  have hk1 : l.length - 1 = k := by omega
  rw [hk1] at d0
  rw [hk] at c1
  have i0 : (0 : Int) ≤ (k : Int) := Int.natCast_nonneg _
  have i1 : (k : Int) < ((k + 1 : Nat) : Int) := by omega
  have s1 : wrap64 (((k + 1 : Nat) : Int) - 1) = k := by rw [wrap64_in (by omega) (by omega)]; omega
  have s2 : IntKind.i64.wrap (((k + 1 : Nat) : Int) - 1) = k := by rw [IntWalk.i64_in _ (by omega)]; omega
  obtain ⟨K, hK⟩ : ∃ K : Nat, K = k + 1 := ⟨_, rfl⟩
  rw [← hK] at s1 s2 i1 c1
  have hb := A.b2
  have hr : r ∉ [p, g] := fun hk => A.v2 r hk rfl
  have HP := Lib.hid P
  have HE := Lib.hid E
  have HA := Lib.hid A
  have HY := Lib.hid hy
  have hf := run_func
  clear P E A hn hy hk hk1 hK
  go_enter Try.func72, Try.ntmps72
  go_upto_region 0 with fail
  go_region_held3 (fun w' => w'.cell? ⟨b, 0, none⟩ = some (.pointer (some ⟨q, 0, none⟩)) ∧ w'.cell? ⟨b, 1, none⟩ = some (.slice (some ⟨r, 0, none⟩) K cap) ∧ w'.cell? ⟨b, 3, none⟩ = some (.int .u64 old) ∧ w'.cell? ⟨r, k, none⟩ = some (.int .i64 x)) ((first | exact ⟨c0, c1, c3, d0⟩ | exact ⟨U1.kept c0, U1.kept c1, U1.kept c3, U1.kept d0⟩ | exact ⟨E2.kept (U1.kept c0) hb, E2.kept (U1.kept c1) hb, E2.kept (U1.kept c3) hb, E2.kept (U1.kept d0) hr⟩))
    (first
      | (go_at_call 45; refine (ofHead_to (HE.out.up (up_drew w)) h0 h1 HY.out).mono ?_; rintro e w1 ⟨rfl, U1⟩)
      | (go_at_call 71; refine (sstoreLink_in (HE.out.up ((up_drew w).trans U1)) (x := x) (y := y) (by omega) (by omega) t0 t1).mono ?_; rintro e w2 ⟨rfl, M2, E2⟩))
  have E3 := Lib.hid ((Else.of_up ((up_drew w).trans U1)).trans E2)
  have P2 := Lib.hid (HP.out.else E3.out HA.out.b2 HA.out.v2)
  have j4 := P2.out.cells.2.2.2.2
  have f4 := P2.out.top.frozen 4
  go_wp2_with fail
  go_end0
  refine ⟨rfl, P2.out.next _, ?_, else_self (E3.out.wide b) (by simp)⟩
  exact M2.else (l := [b]) (Else.set (Else.refl [b] _) (p := ⟨b, 4, none⟩) (.inl (by simp)) _) (by simp [HA.out.bp.symm]) (by simp [HA.out.bg.symm])

set_option maxHeartbeats 2000000 in
theorem push_turn (E : Env w p g q hd ln n s) (P : PushAt w b q v l i old nx) (A : Apart b p g q v) (hl0 : l ≠ []) {c : Bool} {s' : St}
    (hc : ∀ {w1 : World}, Env w1 p g q hd ln n s → Calls Try.prog 81 #[.pointer (some ⟨q, 0, none⟩), .int .u64 old, .int .i64 (l.getD 0 0 : Nat)] w1 fun e w' => e = .returned (.bool c) ∧ Mem w' p g s' ∧ Else [p, g] w1 w') :
    Calls Try.prog 80 #[.pointer (some ⟨b, 0, none⟩)] w fun e w' => e = .returned (.tuple #[]) ∧ PushAt w' b q v l i old (if c then .nilFunc else meth 64 b) ∧ Mem w' p g s' ∧ Else [b, p, g] w w' := by
  obtain ⟨r, cap, rfl, ds⟩ := P.row.get hl0
  have lp := List.length_pos_iff.2 hl0
  have d0 := ds 0 lp
  clear ds
  obtain ⟨c0, c1, _, c3, c4⟩ := P.cells
  generalize l.getD 0 0 = x at *
  have i1 : (0 : Int) < (l.length : Int) := by omega
  have hb := A.b2
  have hr : r ∉ [p, g] := fun hk => A.v2 r hk rfl
  have HP := Lib.hid P
  have HA := Lib.hid A
  have HC := Lib.hid (hc (E.up (up_drew w)))
  have hf := run_func
  clear P E A hc
  cases c
  · go_enter Try.func80, Try.ntmps80
    go_upto_region 0 with fail
    go_region_held3 (fun w' => w'.cell? ⟨b, 0, none⟩ = some (.pointer (some ⟨q, 0, none⟩)) ∧ w'.cell? ⟨b, 1, none⟩ = some (.slice (some ⟨r, 0, none⟩) l.length cap) ∧ w'.cell? ⟨b, 3, none⟩ = some (.int .u64 old) ∧ w'.cell? ⟨r, 0, none⟩ = some (.int .i64 x)) ((first | exact ⟨c0, c1, c3, d0⟩ | exact ⟨E2.kept c0 hb, E2.kept c1 hb, E2.kept c3 hb, E2.kept d0 hr⟩))
      (first
        | (go_at_call 81; refine HC.out.mono ?_; rintro e w2 ⟨rfl, M2, E2⟩))
    have E3 := Lib.hid ((Else.of_up (up_drew w)).trans E2)
    have P2 := Lib.hid (HP.out.else E3.out HA.out.b2 HA.out.v2)
    have j4 := P2.out.cells.2.2.2.2
    have f4 := P2.out.top.frozen 4
    go_wp2_with fail
    go_end0
    refine ⟨rfl, P2.out.next _, ?_, else_self (E3.out.wide b) (by simp)⟩
    exact M2.else (l := [b]) (Else.set (Else.refl [b] _) (p := ⟨b, 4, none⟩) (.inl (by simp)) _) (by simp [HA.out.bp.symm]) (by simp [HA.out.bg.symm])
  · go_enter Try.func80, Try.ntmps80
    go_upto_region 0 with fail
    go_region_held3 (fun w' => w'.cell? ⟨b, 0, none⟩ = some (.pointer (some ⟨q, 0, none⟩)) ∧ w'.cell? ⟨b, 1, none⟩ = some (.slice (some ⟨r, 0, none⟩) l.length cap) ∧ w'.cell? ⟨b, 3, none⟩ = some (.int .u64 old) ∧ w'.cell? ⟨r, 0, none⟩ = some (.int .i64 x)) ((first | exact ⟨c0, c1, c3, d0⟩ | exact ⟨E2.kept c0 hb, E2.kept c1 hb, E2.kept c3 hb, E2.kept d0 hr⟩))
      (first
        | (go_at_call 81; refine HC.out.mono ?_; rintro e w2 ⟨rfl, M2, E2⟩))
    have E3 := Lib.hid ((Else.of_up (up_drew w)).trans E2)
    have P2 := Lib.hid (HP.out.else E3.out HA.out.b2 HA.out.v2)
    have j4 := P2.out.cells.2.2.2.2
    have f4 := P2.out.top.frozen 4
    go_wp2_with fail
    go_end0
    refine ⟨rfl, P2.out.next _, ?_, else_self (E3.out.wide b) (by simp)⟩
    exact M2.else (l := [b]) (Else.set (Else.refl [b] _) (p := ⟨b, 4, none⟩) (.inl (by simp)) _) (by simp [HA.out.bp.symm]) (by simp [HA.out.bg.symm])

/-! ### Done, Step -/
theorem run_eql_func (f : Fn) (x y : Array Value) (w : World) : (binOp .eql 1 (.func f x y) .nilFunc).run Try.prog w = .ok (.bool false) w := by rfl
theorem run_eql_nilFunc (w : World) : (binOp .eql 1 .nilFunc .nilFunc).run Try.prog w = .ok (.bool true) w := by rfl
theorem pushDone_no {f : FuncId} (c4 : w.cell? ⟨b, 4, none⟩ = some (meth f b)) :
    Calls Try.prog 21 #[.pointer (some ⟨b, 0, none⟩)] w fun e w' => e = .returned (.bool false) ∧ w = w' := by
  unfold meth at c4
  have h1 := run_eql_func
  go_enter Try.func21, Try.ntmps21
  go_wp2_with fail
  go_ret
  exact ⟨rfl, rfl⟩
theorem pushDone_yes (c4 : w.cell? ⟨b, 4, none⟩ = some .nilFunc) :
    Calls Try.prog 21 #[.pointer (some ⟨b, 0, none⟩)] w fun e w' => e = .returned (.bool true) ∧ w = w' := by
  have h1 := run_eql_nilFunc
  go_enter Try.func21, Try.ntmps21
  go_wp2_with fail
  go_ret
  exact ⟨rfl, rfl⟩
theorem pushStep_end (c4 : w.cell? ⟨b, 4, none⟩ = some .nilFunc) :
    Calls Try.prog 20 #[.pointer (some ⟨b, 0, none⟩)] w fun e w' => e = .returned (.bool false) ∧ w = w' := by
  have h1 := Lib.hid c4
  go_enter Try.func20, Try.ntmps20
  go_wp2_with (go_at_call 21; refine (pushDone_yes h1.out).mono ?_; rintro e w' ⟨rfl, rfl⟩)
  go_ret
  exact ⟨rfl, rfl⟩
theorem pushStep_link {R : World → Prop} (c4 : w.cell? ⟨b, 4, none⟩ = some (meth 63 b)) (h : Calls Try.prog 63 #[.pointer (some ⟨b, 0, none⟩)] w fun e w' => e = .returned (.tuple #[]) ∧ R w') :
    Calls Try.prog 20 #[.pointer (some ⟨b, 0, none⟩)] w fun e w' => e = .returned (.bool true) ∧ R w' := by
  have h1 := Lib.hid c4
  have H := Lib.hid h
  unfold meth at c4
  clear h
  go_enter Try.func20, Try.ntmps20
  go_wp2_with (first
    | (go_at_call 21; refine (pushDone_no h1.out).mono ?_; rintro e w' ⟨rfl, rfl⟩)
    | (go_at_call 63; refine H.out.mono ?_; rintro e w2 ⟨rfl, r2⟩))
  go_ret
  exact ⟨rfl, r2⟩
theorem pushStep_load {R : World → Prop} (c4 : w.cell? ⟨b, 4, none⟩ = some (meth 64 b)) (h : Calls Try.prog 64 #[.pointer (some ⟨b, 0, none⟩)] w fun e w' => e = .returned (.tuple #[]) ∧ R w') :
    Calls Try.prog 20 #[.pointer (some ⟨b, 0, none⟩)] w fun e w' => e = .returned (.bool true) ∧ R w' := by
  have h1 := Lib.hid c4
  have H := Lib.hid h
  unfold meth at c4
  clear h
  go_enter Try.func20, Try.ntmps20
  go_wp2_with (first
    | (go_at_call 21; refine (pushDone_no h1.out).mono ?_; rintro e w' ⟨rfl, rfl⟩)
    | (go_at_call 64; refine H.out.mono ?_; rintro e w2 ⟨rfl, r2⟩))
  go_ret
  exact ⟨rfl, r2⟩
theorem pushStep_last {R : World → Prop} (c4 : w.cell? ⟨b, 4, none⟩ = some (meth 72 b)) (h : Calls Try.prog 72 #[.pointer (some ⟨b, 0, none⟩)] w fun e w' => e = .returned (.tuple #[]) ∧ R w') :
    Calls Try.prog 20 #[.pointer (some ⟨b, 0, none⟩)] w fun e w' => e = .returned (.bool true) ∧ R w' := by
  have h1 := Lib.hid c4
  have H := Lib.hid h
  unfold meth at c4
  clear h
  go_enter Try.func20, Try.ntmps20
  go_wp2_with (first
    | (go_at_call 21; refine (pushDone_no h1.out).mono ?_; rintro e w' ⟨rfl, rfl⟩)
    | (go_at_call 72; refine H.out.mono ?_; rintro e w2 ⟨rfl, r2⟩))
  go_ret
  exact ⟨rfl, r2⟩
theorem pushStep_turn {R : World → Prop} (c4 : w.cell? ⟨b, 4, none⟩ = some (meth 80 b)) (h : Calls Try.prog 80 #[.pointer (some ⟨b, 0, none⟩)] w fun e w' => e = .returned (.tuple #[]) ∧ R w') :
    Calls Try.prog 20 #[.pointer (some ⟨b, 0, none⟩)] w fun e w' => e = .returned (.bool true) ∧ R w' := by
  have h1 := Lib.hid c4
  have H := Lib.hid h
  unfold meth at c4
  clear h
  go_enter Try.func20, Try.ntmps20
  go_wp2_with (first
    | (go_at_call 21; refine (pushDone_no h1.out).mono ?_; rintro e w' ⟨rfl, rfl⟩)
    | (go_at_call 80; refine H.out.mono ?_; rintro e w2 ⟨rfl, r2⟩))
  go_ret
  exact ⟨rfl, r2⟩
end
end Go.Proofs.Ytalhbebpoohgkaa
