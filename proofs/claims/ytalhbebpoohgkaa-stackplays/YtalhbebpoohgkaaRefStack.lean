/-
  The reference's stack (rundaleref5): Top, Below, next; new machines; Got.
-/
import Derived.Test.YtalhbebpoohgkaaRefCells
import Derived.Test.YtalhbebpoohgkaaRefWord
import Derived.Test.YtalhbebpoohgkaaWholeLaws
namespace Go.Proofs.Ytalhbebpoohgkaa
open Go.RowKit
open W64
set_option maxRecDepth 100000

/-- The reference's stack lies at q, over the memory at p, whose cells lie at g. -/
structure REnv (w : World) (p g q hd ln n : Nat) (xs : List Int) (c : Int) : Prop where
  mem : Ref w p g xs c
  stk : Whole w q 33 #[.pointer (some ⟨p, 0, none⟩), .int .i64 hd, .int .i64 ln, .int .i64 n]
  ok : ∀ i, 0 ≤ xs.getD i 0 ∧ xs.getD i 0 < 18446744073709551616
  np : q ≠ p
  ng : q ≠ g
  n0 : 1 ≤ n
  n1 : n ≤ 4096
  hh : hd < xs.length
  hl : ln + n ≤ xs.length
  top : xs.length ≤ 8388608
section
variable {w w' : World} {p g q hd ln n b most i : Nat} {xs : List Int} {c : Int} {v : Value} {l : List Nat} {old deep : Int}
theorem REnv.up (E : REnv w p g q hd ln n xs c) (u : Up w w') : REnv w' p g q hd ln n xs c := ⟨E.mem.up u, E.stk.up u, E.ok, E.np, E.ng, E.n0, E.n1, E.hh, E.hl, E.top⟩
theorem REnv.else (E : REnv w p g q hd ln n xs c) {x : List Nat} (u : Else x w w') (h1 : p ∉ x) (h2 : g ∉ x) (h3 : q ∉ x) : REnv w' p g q hd ln n xs c :=
  ⟨E.mem.else u h1 h2, u.whole E.stk h3, E.ok, E.np, E.ng, E.n0, E.n1, E.hh, E.hl, E.top⟩
theorem REnv.turn (E : REnv w p g q hd ln n xs c) {xs' : List Int} {c' : Int} (m : Ref w' p g xs' c') {x : List Nat} (u : Else x w w') (hq : q ∉ x) (ok : ∀ i, 0 ≤ xs'.getD i 0 ∧ xs'.getD i 0 < 18446744073709551616) (hl : xs'.length = xs.length) : REnv w' p g q hd ln n xs' c' :=
  ⟨m, u.whole E.stk hq, ok, E.np, E.ng, E.n0, E.n1, hl ▸ E.hh, hl ▸ E.hl, hl ▸ E.top⟩
theorem REnv.cells (E : REnv w p g q hd ln n xs c) : w.cell? ⟨q, 0, none⟩ = some (.pointer (some ⟨p, 0, none⟩)) ∧ w.cell? ⟨q, 1, none⟩ = some (.int .i64 hd) ∧ w.cell? ⟨q, 2, none⟩ = some (.int .i64 ln) ∧ w.cell? ⟨q, 3, none⟩ = some (.int .i64 n) :=
  ⟨E.stk.cell rfl, E.stk.cell rfl, E.stk.cell rfl, E.stk.cell rfl⟩
theorem ok_set {xs : List Int} (h : ∀ i, 0 ≤ xs.getD i 0 ∧ xs.getD i 0 < 18446744073709551616) {j : Nat} {v : Int} (h0 : 0 ≤ v) (h1 : v < 18446744073709551616) : ∀ i, 0 ≤ (xs.set j v).getD i 0 ∧ (xs.set j v).getD i 0 < 18446744073709551616 := by
  intro i
  rw [getD_set]
  split
  · exact ⟨h0, h1⟩
  · exact h i

theorem run_rindex (i t : Int) (w : World) : (Instr.field 82 (.agg #[.int .i64 i, .int .i64 t]) 0).run Try.prog w = .ok (.int .i64 i) w := by
  rfl
set_option maxHeartbeats 400000 in
theorem rtop_in (E : REnv w p g q hd ln n xs c) {x : Int} (h0 : 0 ≤ x) (h1 : x < 18446744073709551616) :
    Calls Try.prog 47 #[.pointer (some ⟨q, 0, none⟩), .int .u64 x] w fun e w' => e = .returned (.int .i64 (topN n x)) ∧ Up w w' := by
  have c3 := E.cells.2.2.2
  have hf := run_rindex
  by_cases h : (n : Int) ≤ x % 4294967296 - 1
  · have e : topN n x = -1 := by unfold topN; rw [if_pos h]
    rw [e]
    have c := Lib.hid c3
    go_enter Try.func47, Try.ntmps47
    go_wp2_with (go_at_call 62; refine (rgetHead_any x _ h0 h1).mono ?_; rintro e w1 ⟨rfl, U1⟩; have c4 := U1.kept c.out)
    go_ret
    exact ⟨rfl, U1⟩
  · have e : topN n x = x % 4294967296 - 1 := by unfold topN; rw [if_neg h]
    rw [e]
    have c := Lib.hid c3
    go_enter Try.func47, Try.ntmps47
    go_wp2_with (go_at_call 62; refine (rgetHead_any x _ h0 h1).mono ?_; rintro e w1 ⟨rfl, U1⟩; have c4 := U1.kept c.out)
    go_ret
    exact ⟨rfl, U1⟩
theorem rtop_to (E : REnv w p g q hd ln n xs c) {x y : Int} (h0 : 0 ≤ x) (h1 : x < 18446744073709551616) (e : topN n x = y) :
    Calls Try.prog 47 #[.pointer (some ⟨q, 0, none⟩), .int .u64 x] w fun e w' => e = .returned (.int .i64 y) ∧ Up w w' := e ▸ rtop_in E h0 h1
set_option maxHeartbeats 400000 in
theorem rbelow_in (E : REnv w p g q hd ln n xs c) {x : Int} (h0 : 0 ≤ x) (_h1 : x < 18446744073709551616) :
    Calls Try.prog 48 #[.pointer (some ⟨q, 0, none⟩), .int .u64 x] w fun e w' => e = .returned (.int .i64 (belowN n x)) ∧ w = w' := by
  have c3 := E.cells.2.2.2
  have n1 := E.n1
  have e1 : IntKind.u64.wrap (n : Int) = n := IntWalk.u64_in _ (by omega)
  by_cases h : (n : Int) < x
  · have e : belowN n x = -1 := by unfold belowN; rw [if_pos h]
    rw [e]
    go_enter Try.func48, Try.ntmps48
    go_wp2
    go_ret
    exact ⟨rfl, rfl⟩
  · have e : belowN n x = x - 1 := by unfold belowN; rw [if_neg h]
    rw [e]
    have e2 : IntKind.i64.wrap x = x := IntWalk.i64_in _ (by omega)
    have e3 : wrap64 (x - 1) = x - 1 := wrap64_in (by omega) (by omega)
    go_enter Try.func48, Try.ntmps48
    go_wp2
    go_ret
    refine ⟨ret_int ?_, rfl⟩
    first | rfl | exact e3 | omega
theorem rbelow_to (E : REnv w p g q hd ln n xs c) {x y : Int} (h0 : 0 ≤ x) (h1 : x < 18446744073709551616) (e : belowN n x = y) :
    Calls Try.prog 48 #[.pointer (some ⟨q, 0, none⟩), .int .u64 x] w fun e w' => e = .returned (.int .i64 y) ∧ w = w' := e ▸ rbelow_in E h0 h1
set_option maxHeartbeats 1000000 in
theorem rnext_in {x i : Int} (h0 : 0 ≤ x) (h1 : x < 18446744073709551616) (i0 : -1 ≤ i) (i1 : i ≤ 4096) (w : World) :
    Calls Try.prog 60 #[.int .u64 x, .int .i64 i] w fun e w' => e = .returned (.int .u64 (nextW x i)) ∧ Up w w' := by
  obtain ⟨e1, e2⟩ := nextW_is (x := x) i0 i1
  have E1 := Lib.hid e1
  have E2 := Lib.hid e2
  clear e1 e2
  go_enter Try.func60, Try.ntmps60
  go_wp2_with (first
    | (go_at_call 62; refine (rgetHead_any x _ h0 h1).mono ?_; rintro e w1 ⟨rfl, U1⟩)
    | (go_at_call 69; refine (rnext_any _ _ _ _).mono ?_; rintro e w2 ⟨rfl, U2⟩)
    | (go_at_call 39; refine (rputHead_yes _ _ _ E1.out).mono ?_; rintro e w3 ⟨rfl, U3⟩))
  go_ret
  exact ⟨ret_int E2.out, (U1.trans U2).trans U3⟩
/-! ### The machines -/
structure RPushAt (w : World) (b q : Nat) (v : Value) (l : List Nat) (i : Nat) (old : Int) (d : Bool) : Prop where
  top : Whole w b 84 #[.pointer (some ⟨q, 0, none⟩), v, .int .i64 i, .int .u64 old, .bool d]
  row : Ints w v (I l)
  away : v.ownBlock ≠ some b
structure RPopAt (w : World) (b q : Nat) (v : Value) (l : List Nat) (most i : Nat) (deep old : Int) (d : Bool) : Prop where
  top : Whole w b 86 #[.pointer (some ⟨q, 0, none⟩), .int .i64 most, .int .i64 i, .int .i64 deep, .int .u64 old, v, .bool d]
  row : Ints w v (I l)
  away : v.ownBlock ≠ some b
theorem RPushAt.else {d : Bool} (P : RPushAt w b q v l i old d) {t : List Nat} (u : Else t w w') (h1 : b ∉ t) (h2 : Away v t) : RPushAt w' b q v l i old d := ⟨u.whole P.top h1, P.row.else u h2, P.away⟩
theorem RPopAt.else {d : Bool} (P : RPopAt w b q v l most i deep old d) {t : List Nat} (u : Else t w w') (h1 : b ∉ t) (h2 : Away v t) : RPopAt w' b q v l most i deep old d := ⟨u.whole P.top h1, P.row.else u h2, P.away⟩
theorem RPushAt.up {d : Bool} (P : RPushAt w b q v l i old d) (u : Up w w') : RPushAt w' b q v l i old d := ⟨P.top.up u, P.row.up u, P.away⟩
theorem RPopAt.up {d : Bool} (P : RPopAt w b q v l most i deep old d) (u : Up w w') : RPopAt w' b q v l most i deep old d := ⟨P.top.up u, P.row.up u, P.away⟩
theorem RPushAt.cells {d : Bool} (P : RPushAt w b q v l i old d) : w.cell? ⟨b, 0, none⟩ = some (.pointer (some ⟨q, 0, none⟩)) ∧ w.cell? ⟨b, 1, none⟩ = some v ∧ w.cell? ⟨b, 2, none⟩ = some (.int .i64 i) ∧ w.cell? ⟨b, 3, none⟩ = some (.int .u64 old) ∧ w.cell? ⟨b, 4, none⟩ = some (.bool d) :=
  ⟨P.top.cell rfl, P.top.cell rfl, P.top.cell rfl, P.top.cell rfl, P.top.cell rfl⟩
theorem RPopAt.cells {d : Bool} (P : RPopAt w b q v l most i deep old d) : w.cell? ⟨b, 0, none⟩ = some (.pointer (some ⟨q, 0, none⟩)) ∧ w.cell? ⟨b, 1, none⟩ = some (.int .i64 most) ∧ w.cell? ⟨b, 2, none⟩ = some (.int .i64 i) ∧ w.cell? ⟨b, 3, none⟩ = some (.int .i64 deep) ∧ w.cell? ⟨b, 4, none⟩ = some (.int .u64 old) ∧ w.cell? ⟨b, 5, none⟩ = some v ∧ w.cell? ⟨b, 6, none⟩ = some (.bool d) :=
  ⟨P.top.cell rfl, P.top.cell rfl, P.top.cell rfl, P.top.cell rfl, P.top.cell rfl, P.top.cell rfl, P.top.cell rfl⟩
theorem shapeI {xs : List Int} (h : Ints w v xs) : ∃ A N k, v = .slice A N k := by
  obtain ⟨A, k, e⟩ := h.slice
  exact ⟨A, _, k, e⟩
theorem fresh_nil' (w : World) : Fresh w (.slice none 0 0) := fun k hk => by simp [Value.ownBlock] at hk
set_option maxHeartbeats 1000000 in
theorem rpush_new (R : Rd w v (I l)) (h0 : l ≠ []) (hl : l.length ≤ 8000) :
    Calls Try.prog 43 #[.pointer (some ⟨q, 0, none⟩), v] w fun e w' => ∃ b v', e = .returned (.pointer (some ⟨b, 0, none⟩)) ∧ RPushAt w' b q v' l 0 0 false ∧ w.heap.size ≤ b ∧ Fresh w v' ∧ Up w w' := by
  have lp := List.length_pos_iff.2 h0
  obtain ⟨A, cap, rfl⟩ := R.slice
  rw [I_len] at R ⊢
  have HR := Lib.hid R
  clear R
  have e0 : ((l.length : Int) == 0) = false := by simp; omega
  go_enter Try.func43, Try.ntmps43
  go_wp2_with (at_builtin; refine wpList_app (v := .slice none 0 0) rfl _ _ rfl rfl rfl (Ints.nil _) HR.out (by rw [I_len]; simp; omega) ?_; intro v5 w5 J5 G5 A5; obtain ⟨A5v, N5, c5, rfl⟩ := shapeI J5; have HJ5 := Lib.hid J5; have HU5 := Lib.hid (up_app (Up.refl _) G5 (fresh_nil' _)); have HF5 := Lib.hid (fresh_app (fresh_nil' w) (Nat.le_refl _) A5); clear J5 G5 A5)
  go_ret
  refine ⟨_, _, rfl, ⟨Whole.new _ _ _, HJ5.out.up (Up.alloc _ _), fun e => ?_⟩, HU5.out.size, HF5.out, HU5.out.then_alloc _⟩
  have := HJ5.out.lt e; omega
set_option maxHeartbeats 1000000 in
theorem rpop_new (m : Int) {most : Nat} (hm : min (max m 1) 8 = most) :
    Calls Try.prog 44 #[.pointer (some ⟨q, 0, none⟩), .int .i64 m] w fun e w' => e = .returned (.pointer (some ⟨w.heap.size, 0, none⟩)) ∧ RPopAt w' w.heap.size q (.slice none 0 0) [] most 0 0 0 false ∧ Up w w' := by
  have key : ∀ k : Int, k = most → RPopAt (w.alloc (.cells #[.pointer (some ⟨q, 0, none⟩), .int .i64 k, .int .i64 0, .int .i64 0, .int .u64 0, .slice none 0 0, .bool false] 86)) w.heap.size q (.slice none 0 0) [] most 0 0 0 false := by
    intro k e; subst e; exact ⟨Whole.new _ _ _, Ints.nil _, by simp [Value.ownBlock]⟩
  have HK := Lib.hid key
  clear key
  by_cases h1 : m < 1
  · have e : (1 : Int) = most := by omega
    have E := Lib.hid e
    clear hm e
    go_enter Try.func44, Try.ntmps44
    go_wp2_with fail
    go_ret
    exact ⟨rfl, HK.out _ E.out, Up.alloc _ _⟩
  · by_cases h2 : m ≤ 8
    · have e : m = most := by omega
      have E := Lib.hid e
      clear hm e
      go_enter Try.func44, Try.ntmps44
      go_wp2_with fail
      go_ret
      exact ⟨rfl, HK.out _ E.out, Up.alloc _ _⟩
    · have e : (8 : Int) = most := by omega
      have E := Lib.hid e
      clear hm e
      go_enter Try.func44, Try.ntmps44
      go_wp2_with fail
      go_ret
      exact ⟨rfl, HK.out _ E.out, Up.alloc _ _⟩
set_option maxHeartbeats 1000000 in
theorem rgot_any {d : Bool} (P : RPopAt w b q v l most i deep old d) (hl : l.length ≤ 8) :
    Calls Try.prog 42 #[.pointer (some ⟨b, 0, none⟩)] w fun e w' => ∃ v', e = .returned v' ∧ Ints w' v' (I (if d then l else [])) ∧ Fresh w v' ∧ Up w w' := by
  obtain ⟨A, N, k, rfl⟩ := shapeI P.row
  have c6 := P.cells.2.2.2.2.2.2
  have c5 := P.cells.2.2.2.2.2.1
  have HR := Lib.hid P.row.rd
  clear P
  cases d with
  | false =>
    go_enter Try.func42, Try.ntmps42
    go_wp2_with fail
    go_ret
    exact ⟨_, rfl, Ints.nil _, fresh_nil' _, Up.refl _⟩
  | true =>
    go_enter Try.func42, Try.ntmps42
    go_wp2_with (at_builtin; refine wpList_app (v := .slice none 0 0) rfl _ _ rfl rfl rfl (Ints.nil _) HR.out (by rw [I_len]; simp; omega) ?_; intro v5 w5 J5 G5 A5; obtain ⟨A5v, N5, c5', rfl⟩ := shapeI J5; have HJ5 := Lib.hid J5; have HU5 := Lib.hid (up_app (Up.refl _) G5 (fresh_nil' _)); have HF5 := Lib.hid (fresh_app (fresh_nil' w) (Nat.le_refl _) A5); clear J5 G5 A5)
    go_ret
    exact ⟨_, rfl, HJ5.out, HF5.out, HU5.out⟩
end
end Go.Proofs.Ytalhbebpoohgkaa
