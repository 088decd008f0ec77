/-
  Package stack: the machine Push.
-/
import Derived.Test.YtalhbebpoohgkaaStack1
import Derived.Test.YtalhbebpoohgkaaStackMem
import Derived.Laws.EntriesVeiled
namespace Go.Proofs.Ytalhbebpoohgkaa
open Go.RowKit
open W64
set_option maxRecDepth 100000

/-- A method value of the machine at b. -/
def meth (f : FuncId) (b : Nat) : Value := .func (.func f) #[.pointer (some ⟨b, 0, none⟩)] #[]
theorem run_func (fn : Fn) (first cap : Array Value) (w : World) : (Instr.makeFunc fn first cap).run Try.prog w = .ok (.func fn first cap) w := rfl
/-- A Push lies at b, over the stack at q: its items l lie at v; how many have their link; the head that it loaded; the next access. -/
structure PushAt (w : World) (b q : Nat) (v : Value) (l : List Nat) (i : Nat) (old : Int) (nx : Value) : Prop where
  top : Whole w b 91 #[.pointer (some ⟨q, 0, none⟩), v, .int .i64 i, .int .u64 old, nx]
  row : Ints w v (I l)
  away : v.ownBlock ≠ some b
section
variable {w w' : World} {p g q hd ln n b : Nat} {s : St} {v : Value} {l : List Nat} {i : Nat} {old : Int} {nx : Value}
theorem PushAt.up (P : PushAt w b q v l i old nx) (u : Up w w') : PushAt w' b q v l i old nx := ⟨P.top.up u, P.row.up u, P.away⟩
theorem PushAt.else (P : PushAt w b q v l i old nx) {t : List Nat} (u : Else t w w') (h1 : b ∉ t) (h2 : Away v t) : PushAt w' b q v l i old nx := ⟨u.whole P.top h1, P.row.else u h2, P.away⟩
theorem PushAt.cells (P : PushAt w b q v l i old nx) : w.cell? ⟨b, 0, none⟩ = some (.pointer (some ⟨q, 0, none⟩)) ∧ w.cell? ⟨b, 1, none⟩ = some v ∧ w.cell? ⟨b, 2, none⟩ = some (.int .i64 i) ∧ w.cell? ⟨b, 3, none⟩ = some (.int .u64 old) ∧ w.cell? ⟨b, 4, none⟩ = some nx :=
  ⟨P.top.cell rfl, P.top.cell rfl, P.top.cell rfl, P.top.cell rfl, P.top.cell rfl⟩
theorem PushAt.next (P : PushAt w b q v l i old nx) (nx' : Value) : PushAt (w.setCell ⟨b, 4, none⟩ nx') b q v l i old nx' :=
  ⟨P.top.set 4 nx', P.row.else (Else.set (s := [b]) (Else.refl [b] w) (p := ⟨b, 4, none⟩) (.inl (by simp)) nx') (by intro k hk; simp at hk; subst hk; exact P.away), P.away⟩
theorem PushAt.count (P : PushAt w b q v l i old nx) (i' : Nat) : PushAt (w.setCell ⟨b, 2, none⟩ (.int .i64 i')) b q v l i' old nx :=
  ⟨P.top.set 2 _, P.row.else (Else.set (s := [b]) (Else.refl [b] w) (p := ⟨b, 2, none⟩) (.inl (by simp)) _) (by intro k hk; simp at hk; subst hk; exact P.away), P.away⟩
theorem PushAt.seen (P : PushAt w b q v l i old nx) (old' : Int) : PushAt (w.setCell ⟨b, 3, none⟩ (.int .u64 old')) b q v l i old' nx :=
  ⟨P.top.set 3 _, P.row.else (Else.set (s := [b]) (Else.refl [b] w) (p := ⟨b, 3, none⟩) (.inl (by simp)) _) (by intro k hk; simp at hk; subst hk; exact P.away), P.away⟩
theorem Ints.get {l : List Nat} (h : Ints w v (I l)) (hl : l ≠ []) : ∃ r cap, v = .slice (some ⟨r, 0, none⟩) l.length cap ∧ ∀ j, j < l.length → w.cell? ⟨r, j, none⟩ = some (.int .i64 ((l.getD j 0 : Nat) : Int)) := by
  obtain ⟨A, cap, e⟩ := h.slice
  rw [I_len] at e
  rw [e] at h
  unfold Ints at h
  rw [I_len] at h
  obtain ⟨r, hr, _⟩ := own_cell h (List.length_pos_iff.2 hl)
  refine ⟨r, cap, by rw [e, hr], fun j hj => ?_⟩
  obtain ⟨r', hr', hc⟩ := own_cell h hj
  rw [hr] at hr'; injection hr' with e2; injection e2 with e2; subst e2
  rw [hc]; simp [I, List.getD, hj]
theorem else_self {a : World} {t : List Nat} {b o : Nat} {u : Value} (h : Else t w a) (hb : b ∈ t) : Else t w (a.setCell ⟨b, o, none⟩ u) := h.set (.inl hb) u

/-- linkOrLoad. -/
def nxL (b len i : Nat) : Value := if i + 1 < len then meth 63 b else meth 64 b
set_option maxHeartbeats 1000000 in
theorem linkOrLoad_in (P : PushAt w b q v l i old nx) (hl : l.length ≤ 8192) (hl0 : 1 ≤ l.length) :
    Calls Try.prog 51 #[.pointer (some ⟨b, 0, none⟩)] w fun e w' => e = .returned (.tuple #[]) ∧ PushAt w' b q v l i old (nxL b l.length i) ∧ Else [b] w w' := by
  obtain ⟨A, cap, rfl⟩ := P.row.slice
  rw [I_len] at *
  obtain ⟨_, c1, c2, _, c4⟩ := P.cells
  have f4 := P.top.frozen 4
  have hf := run_func
  have HP := Lib.hid P
  clear P
  have s1 : wrap64 ((l.length : Int) - 1) = l.length - 1 := wrap64_in (by omega) (by omega)
  have s2 : IntKind.i64.wrap ((l.length : Int) - 1) = l.length - 1 := IntWalk.i64_in _ (by omega)
  by_cases h : i + 1 < l.length
  · have e : nxL b l.length i = meth 63 b := by unfold nxL; rw [if_pos h]
    rw [e]
    have h1 : (i : Int) < (l.length : Int) - 1 := by omega
    go_enter Try.func51, Try.ntmps51
    go_upto_region 0 with fail
    go_quiet (fail)
    go_wp2_with fail
    go_end0
    exact ⟨rfl, (HP.out.up (Up.drewN w _)).next _, (Else.of_up (Up.drewN w _)).set (.inl (by simp)) _⟩
  · have e : nxL b l.length i = meth 64 b := by unfold nxL; rw [if_neg h]
    rw [e]
    have h1 : ¬ (i : Int) < (l.length : Int) - 1 := by omega
    go_enter Try.func51, Try.ntmps51
    go_upto_region 0 with fail
    go_quiet (fail)
    go_wp2_with fail
    go_end0
    exact ⟨rfl, (HP.out.up (Up.drewN w _)).next _, (Else.of_up (Up.drewN w _)).set (.inl (by simp)) _⟩

set_option maxHeartbeats 2000000 in
theorem sstoreLink_in (E : Env w p g q hd ln n s) {x y : Int} (x0 : 0 ≤ x) (x1 : x < n) (y0 : -1 ≤ y) (y1 : y < n) :
    Calls Try.prog 71 #[.pointer (some ⟨q, 0, none⟩), .int .i64 x, .int .i64 y] w fun e w' => e = .returned (.tuple #[]) ∧ Mem w' p g (s.hit 2 (ln + x) (y + 1) true) ∧ Else [p, g] w w' := by
  obtain ⟨c0, _, c2, _⟩ := E.cells
  have hq : q ∉ [p, g] := by simp [E.np, E.ng]
  have n1 := E.n1
  have hl := E.hl
  have ht := E.top
  have s1 : wrap64 ((ln : Int) + x) = ln + x := wrap64_in (by omega) (by omega)
  have s2 : IntKind.i64.wrap ((ln : Int) + x) = ln + x := IntWalk.i64_in _ (by omega)
  have hh := Lib.hid (E.hasL x0 x1)
  have HM := Lib.hid E.mem
  clear E
  go_enter Try.func71, Try.ntmps71
  go_upto_region 0 with fail
  go_region_held3 (fun w' => w'.cell? ⟨q, 0, none⟩ = some (.pointer (some ⟨p, 0, none⟩)) ∧ w'.cell? ⟨q, 2, none⟩ = some (.int .i64 ln)) ((first | exact ⟨c0, c2⟩ | exact ⟨E1.kept c0 hq, E1.kept c2 hq⟩))
    (first
      | (go_at_call 37; refine (asLink_any y y0 (by omega) _).mono ?_; rintro e w5 ⟨rfl, rfl⟩)
      | (go_at_call 79; refine (store_in _ (HM.out.up (up_drew w)) hh.out).mono ?_; rintro e w1 ⟨rfl, M1, E1⟩))
  go_wp2_with fail
  go_end0
  exact ⟨rfl, M1, (Else.of_up (up_drew w)).trans E1⟩
theorem nextW_is {x i : Int} (i0 : -1 ≤ i) (i1 : i ≤ 4096) : headB i (nextT (x / 4294967296)) = true ∧ headN i (nextT (x / 4294967296)) = nextW x i := by
  have h : headB i (nextT (x / 4294967296)) = true := by
    rw [headB_iff]
    unfold nextT inB
    refine ⟨⟨i0, by omega⟩, ?_⟩
    split
    · rename_i h; simp at h; omega
    · omega
  exact ⟨h, by unfold nextW headV; rw [if_pos h]⟩
set_option maxHeartbeats 2000000 in
theorem sturn_any (E : Env w p g q hd ln n s) {x i : Int} (h0 : 0 ≤ x) (h1 : x < 18446744073709551616) (i0 : -1 ≤ i) (i1 : i < n) {c : Bool} {s' : St}
    (hc : ∀ {w1 : World}, Mem w1 p g s → Calls Try.prog 83 #[.pointer (some ⟨p, 0, none⟩), .int .i64 hd, .int .u64 x, .int .u64 (nextW x i)] w1 fun e w' => e = .returned (.tuple #[.bool c, .int .i64 0]) ∧ Mem w' p g s' ∧ Else [p, g] w1 w') :
    Calls Try.prog 81 #[.pointer (some ⟨q, 0, none⟩), .int .u64 x, .int .i64 i] w fun e w' => e = .returned (.bool c) ∧ Mem w' p g s' ∧ Else [p, g] w w' := by
  obtain ⟨c0, c1, _, _⟩ := E.cells
  have hq : q ∉ [p, g] := by simp [E.np, E.ng]
  have n1 := E.n1
  obtain ⟨b1, b2⟩ := nextW_is (x := x) i0 (by omega)
  have HB := Lib.hid b1
  have HM := Lib.hid E.mem
  have HC := Lib.hid (fun w1 => @hc w1)
  rw [← b2] at HC
  clear E b1 b2 hc
  go_enter Try.func81, Try.ntmps81
  go_upto_region 2 with (first
    | (go_at_call 61; refine (getHead_any x _ h0 h1).mono ?_; rintro e w1 ⟨rfl, U1⟩)
    | (go_at_call 82; refine (next_any _ _ _ _).mono ?_; rintro e w2 ⟨rfl, U2⟩)
    | (go_at_call 38; refine (putHead_yes _ _ _ HB.out).mono ?_; rintro e w3 ⟨rfl, U3⟩))
  have U := (U1.trans U2).trans U3
  have HU := Lib.hid (U.trans (up_drew w3))
  replace c0 := U.kept c0
  replace c1 := U.kept c1
  clear U1 U2 U3 U
  go_region_held3 (fun w' => w'.cell? ⟨q, 0, none⟩ = some (.pointer (some ⟨p, 0, none⟩)) ∧ w'.cell? ⟨q, 1, none⟩ = some (.int .i64 hd)) ((first | exact ⟨c0, c1⟩ | exact ⟨E4.kept c0 hq, E4.kept c1 hq⟩))
    (first
      | (go_at_call 83; refine (HC.out _ (HM.out.up HU.out)).mono ?_; rintro e w4 ⟨rfl, M4, E4⟩))
  go_wp2_with fail
  go_ret
  exact ⟨rfl, M4, (Else.of_up HU.out).trans E4⟩
theorem sturn_yes (E : Env w p g q hd ln n s) {x i : Int} (i0 : -1 ≤ i) (i1 : i < n) (hx : s.get hd = x) :
    Calls Try.prog 81 #[.pointer (some ⟨q, 0, none⟩), .int .u64 x, .int .i64 i] w fun e w' => e = .returned (.bool true) ∧ Mem w' p g (s.hit 3 hd (nextW x i) true) ∧ Else [p, g] w w' := by
  have hk := E.ok hd
  rw [hx] at hk
  exact sturn_any E hk.1 hk.2 i0 i1 (fun m => cas_yes _ m E.hasH hx)
theorem sturn_no (E : Env w p g q hd ln n s) {x i : Int} (h0 : 0 ≤ x) (h1 : x < 18446744073709551616) (i0 : -1 ≤ i) (i1 : i < n) (hx : s.get hd ≠ x) :
    Calls Try.prog 81 #[.pointer (some ⟨q, 0, none⟩), .int .u64 x, .int .i64 i] w fun e w' => e = .returned (.bool false) ∧ Mem w' p g (s.hit 3 hd (s.get hd) false) ∧ Else [p, g] w w' :=
  sturn_any E h0 h1 i0 i1 (fun m => cas_no _ m E.hasH hx)
end
end Go.Proofs.Ytalhbebpoohgkaa
