/-
  Texts beneath SupplyAll, part 16: RefStack, RefPush.
-/
import Derived.Test.YtkopplnjomkleaaGreatPart15
import Derived.BigQuiet
/-
  The reference's stack (rundaleref5): Top, Below, next; new machines; Got.
-/
namespace Go.Proofs.YtkopplnjomkleaaGreat
open Go.RowKit
open W64
set_option maxRecDepth 100000

/-- The reference's stack lies at q, over the memory at p, whose cells lie at g. -/
structure REnv (w : World) (p g q hd ln n : Nat) (xs : List Int) (c : Int) : Prop where
  mem : Ref w p g xs c
  stk : Whole w q 111 #[.pointer (some ⟨p, 0, none⟩), .int .i64 hd, .int .i64 ln, .int .i64 n]
  ok : ∀ i, 0 ≤ xs.getD i 0 ∧ xs.getD i 0 < 18446744073709551616
  np : q ≠ p
  ng : q ≠ g
  n0 : 1 ≤ n
  n1 : n ≤ 4096
  hh : hd < xs.length
  hl : ln + n ≤ xs.length
  top : xs.length ≤ 8388608
section
variable {w w' : World} {p g q hd ln n b most i : Nat} {xs : List Int} {c : Int} {v : Value} {l : List Nat} {old deep : Int}
theorem REnv.up (E : REnv w p g q hd ln n xs c) (u : Up w w') : REnv w' p g q hd ln n xs c := ⟨E.mem.up u, E.stk.up u, E.ok, E.np, E.ng, E.n0, E.n1, E.hh, E.hl, E.top⟩
theorem REnv.else (E : REnv w p g q hd ln n xs c) {x : List Nat} (u : Else x w w') (h1 : p ∉ x) (h2 : g ∉ x) (h3 : q ∉ x) : REnv w' p g q hd ln n xs c :=
  ⟨E.mem.else u h1 h2, u.whole E.stk h3, E.ok, E.np, E.ng, E.n0, E.n1, E.hh, E.hl, E.top⟩
theorem REnv.turn (E : REnv w p g q hd ln n xs c) {xs' : List Int} {c' : Int} (m : Ref w' p g xs' c') {x : List Nat} (u : Else x w w') (hq : q ∉ x) (ok : ∀ i, 0 ≤ xs'.getD i 0 ∧ xs'.getD i 0 < 18446744073709551616) (hl : xs'.length = xs.length) : REnv w' p g q hd ln n xs' c' :=
  ⟨m, u.whole E.stk hq, ok, E.np, E.ng, E.n0, E.n1, hl ▸ E.hh, hl ▸ E.hl, hl ▸ E.top⟩
theorem REnv.cells (E : REnv w p g q hd ln n xs c) : w.cell? ⟨q, 0, none⟩ = some (.pointer (some ⟨p, 0, none⟩)) ∧ w.cell? ⟨q, 1, none⟩ = some (.int .i64 hd) ∧ w.cell? ⟨q, 2, none⟩ = some (.int .i64 ln) ∧ w.cell? ⟨q, 3, none⟩ = some (.int .i64 n) :=
  ⟨E.stk.cell rfl, E.stk.cell rfl, E.stk.cell rfl, E.stk.cell rfl⟩
theorem ok_set {xs : List Int} (h : ∀ i, 0 ≤ xs.getD i 0 ∧ xs.getD i 0 < 18446744073709551616) {j : Nat} {v : Int} (h0 : 0 ≤ v) (h1 : v < 18446744073709551616) : ∀ i, 0 ≤ (xs.set j v).getD i 0 ∧ (xs.set j v).getD i 0 < 18446744073709551616 := by
  intro i
  rw [getD_set]
  split
  · exact ⟨h0, h1⟩
  · exact h i

theorem run_rindex (i t : Int) (w : World) : (Instr.field 163 (.agg #[.int .i64 i, .int .i64 t]) 0).run Tryz.prog w = .ok (.int .i64 i) w := by
  rfl
set_option maxHeartbeats 400000 in
theorem rtop_in (E : REnv w p g q hd ln n xs c) {x : Int} (h0 : 0 ≤ x) (h1 : x < 18446744073709551616) :
    Calls Tryz.prog 56 #[.pointer (some ⟨q, 0, none⟩), .int .u64 x] w fun e w' => e = .returned (.int .i64 (topN n x)) ∧ Up w w' := by
  have c3 := E.cells.2.2.2
  have hf := run_rindex
  by_cases h : (n : Int) ≤ x % 4294967296 - 1
  · have e : topN n x = -1 := by unfold topN; rw [if_pos h]
    rw [e]
    have c := Lib.hid c3
    go_enter Tryz.func56, Tryz.ntmps56
    go_wp2_with (go_at_call 105; refine (rgetHead_any x _ h0 h1).mono ?_; rintro e w1 ⟨rfl, U1⟩; have c4 := U1.kept c.out)
    go_ret
    exact ⟨rfl, U1⟩
  · have e : topN n x = x % 4294967296 - 1 := by unfold topN; rw [if_neg h]
    rw [e]
    have c := Lib.hid c3
    go_enter Tryz.func56, Tryz.ntmps56
    go_wp2_with (go_at_call 105; refine (rgetHead_any x _ h0 h1).mono ?_; rintro e w1 ⟨rfl, U1⟩; have c4 := U1.kept c.out)
    go_ret
    exact ⟨rfl, U1⟩
theorem rtop_to (E : REnv w p g q hd ln n xs c) {x y : Int} (h0 : 0 ≤ x) (h1 : x < 18446744073709551616) (e : topN n x = y) :
    Calls Tryz.prog 56 #[.pointer (some ⟨q, 0, none⟩), .int .u64 x] w fun e w' => e = .returned (.int .i64 y) ∧ Up w w' := e ▸ rtop_in E h0 h1
set_option maxHeartbeats 400000 in
theorem rbelow_in (E : REnv w p g q hd ln n xs c) {x : Int} (h0 : 0 ≤ x) (_h1 : x < 18446744073709551616) :
    Calls Tryz.prog 57 #[.pointer (some ⟨q, 0, none⟩), .int .u64 x] w fun e w' => e = .returned (.int .i64 (belowN n x)) ∧ w = w' := by
  have c3 := E.cells.2.2.2
  have n1 := E.n1
  have e1 : IntKind.u64.wrap (n : Int) = n := IntWalk.u64_in _ (by omega)
  by_cases h : (n : Int) < x
  · have e : belowN n x = -1 := by unfold belowN; rw [if_pos h]
    rw [e]
    go_enter Tryz.func57, Tryz.ntmps57
    go_wp2
    go_ret
    exact ⟨rfl, rfl⟩
  · have e : belowN n x = x - 1 := by unfold belowN; rw [if_neg h]
    rw [e]
    have e2 : IntKind.i64.wrap x = x := IntWalk.i64_in _ (by omega)
    have e3 : wrap64 (x - 1) = x - 1 := wrap64_in (by omega) (by omega)
    go_enter Tryz.func57, Tryz.ntmps57
    go_wp2
    go_ret
    refine ⟨ret_int ?_, rfl⟩
    first | rfl | exact e3 | omega
theorem rbelow_to (E : REnv w p g q hd ln n xs c) {x y : Int} (h0 : 0 ≤ x) (h1 : x < 18446744073709551616) (e : belowN n x = y) :
    Calls Tryz.prog 57 #[.pointer (some ⟨q, 0, none⟩), .int .u64 x] w fun e w' => e = .returned (.int .i64 y) ∧ w = w' := e ▸ rbelow_in E h0 h1
set_option maxHeartbeats 1000000 in
theorem rnext_in {x i : Int} (h0 : 0 ≤ x) (h1 : x < 18446744073709551616) (i0 : -1 ≤ i) (i1 : i ≤ 4096) (w : World) :
    Calls Tryz.prog 125 #[.int .u64 x, .int .i64 i] w fun e w' => e = .returned (.int .u64 (nextW x i)) ∧ Up w w' := by
  obtain ⟨e1, e2⟩ := nextW_is (x := x) i0 i1
  have E1 := Lib.hid e1
  have E2 := Lib.hid e2
  clear e1 e2
  go_enter Tryz.func125, Tryz.ntmps125
  go_wp2_with (first
    | (go_at_call 105; refine (rgetHead_any x _ h0 h1).mono ?_; rintro e w1 ⟨rfl, U1⟩)
    | (go_at_call 146; refine (rnext_any _ _ _ _).mono ?_; rintro e w2 ⟨rfl, U2⟩)
    | (go_at_call 121; refine (rputHead_yes _ _ _ E1.out).mono ?_; rintro e w3 ⟨rfl, U3⟩))
  go_ret
  exact ⟨ret_int E2.out, (U1.trans U2).trans U3⟩
/-! ### The machines -/
structure RPushAt (w : World) (b q : Nat) (v : Value) (l : List Nat) (i : Nat) (old : Int) (d : Bool) : Prop where
  top : Whole w b 151 #[.pointer (some ⟨q, 0, none⟩), v, .int .i64 i, .int .u64 old, .bool d]
  row : Ints w v (I l)
  away : v.ownBlock ≠ some b
structure RPopAt (w : World) (b q : Nat) (v : Value) (l : List Nat) (most i : Nat) (deep old : Int) (d : Bool) : Prop where
  top : Whole w b 143 #[.pointer (some ⟨q, 0, none⟩), .int .i64 most, .int .i64 i, .int .i64 deep, .int .u64 old, v, .bool d]
  row : Ints w v (I l)
  away : v.ownBlock ≠ some b
theorem RPushAt.else {d : Bool} (P : RPushAt w b q v l i old d) {t : List Nat} (u : Else t w w') (h1 : b ∉ t) (h2 : Away v t) : RPushAt w' b q v l i old d := ⟨u.whole P.top h1, P.row.else u h2, P.away⟩
theorem RPopAt.else {d : Bool} (P : RPopAt w b q v l most i deep old d) {t : List Nat} (u : Else t w w') (h1 : b ∉ t) (h2 : Away v t) : RPopAt w' b q v l most i deep old d := ⟨u.whole P.top h1, P.row.else u h2, P.away⟩
theorem RPushAt.up {d : Bool} (P : RPushAt w b q v l i old d) (u : Up w w') : RPushAt w' b q v l i old d := ⟨P.top.up u, P.row.up u, P.away⟩
theorem RPopAt.up {d : Bool} (P : RPopAt w b q v l most i deep old d) (u : Up w w') : RPopAt w' b q v l most i deep old d := ⟨P.top.up u, P.row.up u, P.away⟩
theorem RPushAt.cells {d : Bool} (P : RPushAt w b q v l i old d) : w.cell? ⟨b, 0, none⟩ = some (.pointer (some ⟨q, 0, none⟩)) ∧ w.cell? ⟨b, 1, none⟩ = some v ∧ w.cell? ⟨b, 2, none⟩ = some (.int .i64 i) ∧ w.cell? ⟨b, 3, none⟩ = some (.int .u64 old) ∧ w.cell? ⟨b, 4, none⟩ = some (.bool d) :=
  ⟨P.top.cell rfl, P.top.cell rfl, P.top.cell rfl, P.top.cell rfl, P.top.cell rfl⟩
theorem RPopAt.cells {d : Bool} (P : RPopAt w b q v l most i deep old d) : w.cell? ⟨b, 0, none⟩ = some (.pointer (some ⟨q, 0, none⟩)) ∧ w.cell? ⟨b, 1, none⟩ = some (.int .i64 most) ∧ w.cell? ⟨b, 2, none⟩ = some (.int .i64 i) ∧ w.cell? ⟨b, 3, none⟩ = some (.int .i64 deep) ∧ w.cell? ⟨b, 4, none⟩ = some (.int .u64 old) ∧ w.cell? ⟨b, 5, none⟩ = some v ∧ w.cell? ⟨b, 6, none⟩ = some (.bool d) :=
  ⟨P.top.cell rfl, P.top.cell rfl, P.top.cell rfl, P.top.cell rfl, P.top.cell rfl, P.top.cell rfl, P.top.cell rfl⟩
set_option maxHeartbeats 1000000 in
theorem rpush_new (R : Rd w v (I l)) (h0 : l ≠ []) (hl : l.length ≤ 8000) :
    Calls Tryz.prog 127 #[.pointer (some ⟨q, 0, none⟩), v] w fun e w' => ∃ b v', e = .returned (.pointer (some ⟨b, 0, none⟩)) ∧ RPushAt w' b q v' l 0 0 false ∧ w.heap.size ≤ b ∧ Fresh w v' ∧ Up w w' := by
  have lp := List.length_pos_iff.2 h0
  obtain ⟨A, cap, rfl⟩ := R.slice
  rw [I_len] at R ⊢
  have HR := Lib.hid R
  clear R
  have e0 : ((l.length : Int) == 0) = false := by simp; omega
  go_enter Tryz.func127, Tryz.ntmps127
  go_wp2_with (at_builtin; refine wpList_app (v := .slice none 0 0) rfl _ _ rfl rfl rfl (Ints.nil _) HR.out (by rw [I_len]; simp; omega) ?_; intro v5 w5 J5 G5 A5; obtain ⟨A5v, N5, c5, rfl⟩ := shapeI J5; have HJ5 := Lib.hid J5; have HU5 := Lib.hid (up_app (Up.refl _) G5 (fresh_nil _)); have HF5 := Lib.hid (fresh_app (fresh_nil w) (Nat.le_refl _) A5); clear J5 G5 A5)
  go_ret
  refine ⟨_, _, rfl, ⟨Whole.new _ _ _, HJ5.out.up (Up.alloc _ _), fun e => ?_⟩, HU5.out.size, HF5.out, HU5.out.then_alloc _⟩
  have := HJ5.out.lt e; omega
set_option maxHeartbeats 1000000 in
theorem rpop_new (m : Int) {most : Nat} (hm : min (max m 1) 8 = most) :
    Calls Tryz.prog 123 #[.pointer (some ⟨q, 0, none⟩), .int .i64 m] w fun e w' => e = .returned (.pointer (some ⟨w.heap.size, 0, none⟩)) ∧ RPopAt w' w.heap.size q (.slice none 0 0) [] most 0 0 0 false ∧ Up w w' := by
  have key : ∀ k : Int, k = most → RPopAt (w.alloc (.cells #[.pointer (some ⟨q, 0, none⟩), .int .i64 k, .int .i64 0, .int .i64 0, .int .u64 0, .slice none 0 0, .bool false] 143)) w.heap.size q (.slice none 0 0) [] most 0 0 0 false := by
    intro k e; subst e; exact ⟨Whole.new _ _ _, Ints.nil _, by simp [Value.ownBlock]⟩
  have HK := Lib.hid key
  clear key
  by_cases h1 : m < 1
  · have e : (1 : Int) = most := by omega
    have E := Lib.hid e
    clear hm e
    go_enter Tryz.func123, Tryz.ntmps123
    go_wp2_with fail
    go_ret
    exact ⟨rfl, HK.out _ E.out, Up.alloc _ _⟩
  · by_cases h2 : m ≤ 8
    · have e : m = most := by omega
      have E := Lib.hid e
      clear hm e
      go_enter Tryz.func123, Tryz.ntmps123
      go_wp2_with fail
      go_ret
      exact ⟨rfl, HK.out _ E.out, Up.alloc _ _⟩
    · have e : (8 : Int) = most := by omega
      have E := Lib.hid e
      clear hm e
      go_enter Tryz.func123, Tryz.ntmps123
      go_wp2_with fail
      go_ret
      exact ⟨rfl, HK.out _ E.out, Up.alloc _ _⟩
set_option maxHeartbeats 1000000 in
theorem rgot_any {d : Bool} (P : RPopAt w b q v l most i deep old d) (hl : l.length ≤ 8) :
    Calls Tryz.prog 89 #[.pointer (some ⟨b, 0, none⟩)] w fun e w' => ∃ v', e = .returned v' ∧ Ints w' v' (I (if d then l else [])) ∧ Fresh w v' ∧ Up w w' := by
  obtain ⟨A, N, k, rfl⟩ := shapeI P.row
  have c6 := P.cells.2.2.2.2.2.2
  have c5 := P.cells.2.2.2.2.2.1
  have HR := Lib.hid P.row.rd
  clear P
  cases d with
  | false =>
    go_enter Tryz.func89, Tryz.ntmps89
    go_wp2_with fail
    go_ret
    exact ⟨_, rfl, Ints.nil _, fresh_nil _, Up.refl _⟩
  | true =>
    go_enter Tryz.func89, Tryz.ntmps89
    go_wp2_with (at_builtin; refine wpList_app (v := .slice none 0 0) rfl _ _ rfl rfl rfl (Ints.nil _) HR.out (by rw [I_len]; simp; omega) ?_; intro v5 w5 J5 G5 A5; obtain ⟨A5v, N5, c5', rfl⟩ := shapeI J5; have HJ5 := Lib.hid J5; have HU5 := Lib.hid (up_app (Up.refl _) G5 (fresh_nil _)); have HF5 := Lib.hid (fresh_app (fresh_nil w) (Nat.le_refl _) A5); clear J5 G5 A5)
    go_ret
    exact ⟨_, rfl, HJ5.out, HF5.out, HU5.out⟩
end
end Go.Proofs.YtkopplnjomkleaaGreat

/-
  The reference's stack: one Step of a Push, way by way.
-/
namespace Go.Proofs.YtkopplnjomkleaaGreat
open Go.RowKit
open W64
set_option maxRecDepth 100000
section
variable {w w' : World} {p g q hd ln n b i : Nat} {xs : List Int} {c : Int} {v : Value} {l : List Nat} {old : Int}
theorem rload_to {a x : Int} {k : Nat} (ha : a = (k : Int)) (m : Ref w p g xs c) (h : k < xs.length) (hx : xs.getD k 0 = x) :
    Calls Tryz.prog 85 #[.pointer (some ⟨p, 0, none⟩), .int .i64 a] w fun e w' => e = .returned (.int .u64 x) ∧ Ref w' p g xs (wrap64 (c + 1)) ∧ Else [p, g] w w' := by subst ha hx; exact rload_in m h
theorem rstore_to {a : Int} {k : Nat} (v : Int) (ha : a = (k : Int)) (m : Ref w p g xs c) (h : k < xs.length) :
    Calls Tryz.prog 126 #[.pointer (some ⟨p, 0, none⟩), .int .i64 a, .int .u64 v] w fun e w' => e = .returned (.tuple #[]) ∧ Ref w' p g (xs.set k v) (wrap64 (c + 1)) ∧ Else [p, g] w w' := by subst ha; exact rstore_in v m h
theorem RPushAt.count {d : Bool} (P : RPushAt w b q v l i old d) {a : Int} {j : Nat} (h : a = (j : Int)) : RPushAt (w.setCell ⟨b, 2, none⟩ (.int .i64 a)) b q v l j old d := by subst h; exact ⟨P.top.set 2 _, row_self P.row P.away _, P.away⟩
theorem RPushAt.seen {d : Bool} (P : RPushAt w b q v l i old d) (o : Int) : RPushAt (w.setCell ⟨b, 3, none⟩ (.int .u64 o)) b q v l i o d := ⟨P.top.set 3 _, row_self P.row P.away _, P.away⟩
theorem RPushAt.fin {d : Bool} (P : RPushAt w b q v l i old d) (e : Bool) : RPushAt (w.setCell ⟨b, 4, none⟩ (.bool e)) b q v l i old e := ⟨P.top.set 4 _, row_self P.row P.away _, P.away⟩
theorem Ref.self (M : Ref w p g xs c) (h1 : b ≠ p) (h2 : b ≠ g) (i : Nat) (u : Value) : Ref (w.setCell ⟨b, i, none⟩ u) p g xs c :=
  M.else (l := [b]) ((Else.refl [b] w).set (p := ⟨b, i, none⟩) (.inl (by simp)) u) (by simp [h1.symm]) (by simp [h2.symm])
theorem wrapS {a b : Nat} (h : a + b ≤ 8400000) : IntKind.i64.wrap ((a : Int) + b) = a + b ∧ wrap64 ((a : Int) + b) = a + b := ⟨IntWalk.i64_in _ (by omega), wrap64_in (by omega) (by omega)⟩
set_option maxHeartbeats 4000000 in
theorem rpush_link (E : REnv w p g q hd ln n xs c) (P : RPushAt w b q v l i old false) (A : Apart b p g q v) (hl0 : l ≠ []) (hn : ∀ x ∈ l, x < n) (hl : l.length ≤ 8192) (hi : i + 1 < l.length) :
    Calls Tryz.prog 90 #[.pointer (some ⟨b, 0, none⟩)] w fun e w' => e = .returned (.bool true) ∧ RPushAt w' b q v l (i + 1) old false ∧ Ref w' p g (xs.set (ln + l.getD i 0) ((l.getD (i + 1) 0 : Nat) + 1)) (wrap64 (c + 1)) ∧ Else [b, p, g] w w' := by
  obtain ⟨r, cap, rfl, ds⟩ := P.row.get hl0
  have lp := List.length_pos_iff.2 hl0
  have d0 := ds i (by omega)
  have d1 := ds (i + 1) (by omega)
  have m0 := hn _ (Stk.getD_mem (show i < l.length by omega))
  have m1 := hn _ (Stk.getD_mem (show i + 1 < l.length by omega))
  generalize l.getD i 0 = x at *
  generalize l.getD (i + 1) 0 = y at *
  clear ds
  have n1 := E.n1
  have hlx := E.hl
  have hhx := E.hh
  have htx := E.top
  obtain ⟨K, hK⟩ : ∃ K : Nat, K = l.length := ⟨_, rfl⟩
  have HKL := Lib.hid hK
  rw [← hK] at hi lp hl
  have i0 : (0 : Int) ≤ (i : Int) := Int.natCast_nonneg _
  have i1 : (i : Int) < (K : Int) := by omega
  have i2 : (i : Int) + 1 < (K : Int) := by omega
  have i3 : (0 : Int) ≤ (i : Int) + 1 := by omega
  have i4 : (i : Int) < (K : Int) - 1 := by omega
  have HLT := Lib.hid (show ln + x < xs.length by omega)
  have HAD := Lib.hid (show (ln : Int) + (x : Int) = ((ln + x : Nat) : Int) by omega)
  have HCT := Lib.hid (show (i : Int) + 1 = ((i + 1 : Nat) : Int) by omega)
  have s9 : (-9223372036854775808 ≤ (i : Int) + 1 ∧ (i : Int) + 1 ≤ 9223372036854775807) ∧ (-9223372036854775808 ≤ (y : Int) + 1 ∧ (y : Int) + 1 ≤ 9223372036854775807) ∧ (0 ≤ (y : Int) + 1 ∧ (y : Int) + 1 ≤ 18446744073709551615) ∧ ln + x ≤ 8400000 ∧ (-9223372036854775808 ≤ (K : Int) - 1 ∧ (K : Int) - 1 ≤ 9223372036854775807) ∧ (K : Int) - 1 < 9223372036854775808 := by omega
  obtain ⟨z1, z2, z3, z4, z5, z6⟩ := s9
  have s2 := IntWalk.i64_in ((i : Int) + 1) z1
  obtain ⟨s3, s4⟩ := wrapS (a := ln) (b := x) z4
  have s5 := IntWalk.i64_in ((y : Int) + 1) z2
  have s6 := IntWalk.u64_in ((y : Int) + 1) z3
  have sK := IntWalk.i64_in ((K : Int) - 1) z5
  have sK2 := wrap64_in z5.1 z6
  clear z1 z2 z3 z4 z5 z6
  have hb := A.b2
  have hbq := A.bq
  have hq : q ∉ [p, g] := by simp [E.np, E.ng]
  have hr : r ∉ [p, g] := fun hk => A.v2 r hk rfl
  obtain ⟨c0, c1, c2, c3, c4⟩ := P.cells
  rw [← hK] at c1
  have HP := Lib.hid P
  have HE := Lib.hid E
  have HA := Lib.hid A
  clear P E A hK hn hl0
  go_enter Tryz.func90, Tryz.ntmps90
  go_upto_region 3 with fail
  go_quiet (fail)
  replace HP := Lib.hid (HP.out.up (Up.drewN w nq))
  replace HE := Lib.hid (HE.out.up (Up.drewN w nq))
  have HU0 := Lib.hid (Up.drewN w nq)
  clear c0 c1 c2 c3 c4
  go_upto_region 6 with fail
  generalize w.drewN nq = w0 at *
  obtain ⟨c0, c1, c2, c3, c4⟩ := HP.out.cells
  rw [← HKL.out] at c1
  obtain ⟨k0, k1, k2, k3⟩ := HE.out.cells
  replace d0 := HU0.out.kept d0
  replace d1 := HU0.out.kept d1
  go_upto_region 7 with fail
  go_region_held3 (fun w' => w'.cell? ⟨b, 1, none⟩ = some (.slice (some ⟨r, 0, none⟩) K cap) ∧ w'.cell? ⟨b, 2, none⟩ = some (.int .i64 i) ∧ w'.cell? ⟨r, i, none⟩ = some (.int .i64 x) ∧ w'.cell? ⟨r, i + 1, none⟩ = some (.int .i64 y) ∧ w'.cell? ⟨q, 0, none⟩ = some (.pointer (some ⟨p, 0, none⟩)) ∧ w'.cell? ⟨q, 2, none⟩ = some (.int .i64 ln)) ((first | exact ⟨c1, c2, d0, d1, k0, k2⟩ | exact ⟨E1.kept c1 hb, E1.kept c2 hb, E1.kept d0 hr, E1.kept d1 hr, E1.kept k0 hq, E1.kept k2 hq⟩))
    (first
      | (go_at_call 126; refine (rstore_to (k := ln + x) _ HAD.out (HE.out.mem.up (up_drew w0)) HLT.out).mono ?_; rintro e w1 ⟨rfl, M1, E1⟩))
  have E2 := Lib.hid ((Else.of_up (HU0.out.trans (up_drew w0))).trans E1)
  have P1 := Lib.hid ((HP.out.up (up_drew w0)).else E1 HA.out.b2 HA.out.v2)
  have M2 := Lib.hid M1
  have j2 := P1.out.cells.2.2.1
  have f2 := P1.out.top.frozen 2
  clear M1 E1 c0 c1 c2 c3 c4 d0 d1 k0 k1 k2 k3
  go_wp2_with fail
  go_ret
  refine ⟨rfl, P1.out.count HCT.out, M2.out.self HA.out.bp HA.out.bg _ _, else_self (E2.out.wide b) (by simp)⟩
set_option maxHeartbeats 4000000 in
theorem rpush_load (E : REnv w p g q hd ln n xs c) (P : RPushAt w b q v l i old false) (A : Apart b p g q v) (hl0 : l ≠ []) (_hn : ∀ x ∈ l, x < n) (hl : l.length ≤ 8192) (hi : i + 1 = l.length) :
    Calls Tryz.prog 90 #[.pointer (some ⟨b, 0, none⟩)] w fun e w' => e = .returned (.bool true) ∧ RPushAt w' b q v l (i + 1) (xs.getD hd 0) false ∧ Ref w' p g xs (wrap64 (c + 1)) ∧ Else [b, p, g] w w' := by
  obtain ⟨r, cap, rfl, ds⟩ := P.row.get hl0
  have lp := List.length_pos_iff.2 hl0
  obtain ⟨x, hx⟩ : ∃ x, xs.getD hd 0 = x := ⟨_, rfl⟩
  rw [hx]
  have HX := Lib.hid hx
  clear ds
  have n1 := E.n1
  have hlx := E.hl
  have hhx := E.hh
  have htx := E.top
  obtain ⟨K, hK⟩ : ∃ K : Nat, K = l.length := ⟨_, rfl⟩
  have HKL := Lib.hid hK
  rw [← hK] at hi lp hl
  have i0 : (0 : Int) ≤ (i : Int) := Int.natCast_nonneg _
  have i4 : ¬ (i : Int) < (K : Int) - 1 := by omega
  have i5 : (i : Int) = (K : Int) - 1 := by omega
  have HCT := Lib.hid (show (i : Int) + 1 = ((i + 1 : Nat) : Int) by omega)
  have s9 : (-9223372036854775808 ≤ (i : Int) + 1 ∧ (i : Int) + 1 ≤ 9223372036854775807) ∧ (-9223372036854775808 ≤ (K : Int) - 1 ∧ (K : Int) - 1 ≤ 9223372036854775807) ∧ (K : Int) - 1 < 9223372036854775808 := by omega
  obtain ⟨z1, z5, z6⟩ := s9
  have s2 := IntWalk.i64_in ((i : Int) + 1) z1
  have sK := IntWalk.i64_in ((K : Int) - 1) z5
  have sK2 := wrap64_in z5.1 z6
  rw [← i5] at sK sK2 i4
  clear z1 z5 z6 i5
  have hb := A.b2
  have hbq := A.bq
  have hq : q ∉ [p, g] := by simp [E.np, E.ng]
  have hr : r ∉ [p, g] := fun hk => A.v2 r hk rfl
  obtain ⟨c0, c1, c2, c3, c4⟩ := P.cells
  rw [← hK] at c1
  have HP := Lib.hid P
  have HE := Lib.hid E
  have HA := Lib.hid A
  clear P E A hK hl0 hx
  go_enter Tryz.func90, Tryz.ntmps90
  go_upto_region 3 with fail
  go_quiet (fail)
  replace HP := Lib.hid (HP.out.up (Up.drewN w nq))
  replace HE := Lib.hid (HE.out.up (Up.drewN w nq))
  have HU0 := Lib.hid (Up.drewN w nq)
  clear c0 c1 c2 c3 c4
  go_upto_region 6 with fail
  generalize w.drewN nq = w0 at *
  obtain ⟨c0, c1, c2, c3, c4⟩ := HP.out.cells
  rw [← HKL.out] at c1
  obtain ⟨k0, k1, k2, k3⟩ := HE.out.cells
  go_upto_region 10 with fail
  go_region_held3 (fun w' => w'.cell? ⟨q, 0, none⟩ = some (.pointer (some ⟨p, 0, none⟩)) ∧ w'.cell? ⟨q, 1, none⟩ = some (.int .i64 hd)) ((first | exact ⟨k0, k1⟩ | exact ⟨E1.kept k0 hq, E1.kept k1 hq⟩ | exact ⟨kept_set (ad_ne hbq) (E1.kept k0 hq), kept_set (ad_ne hbq) (E1.kept k1 hq)⟩))
    (first
      | (go_at_call 85; refine (rload_to (k := hd) rfl (HE.out.mem.up (up_drew w0)) hhx HX.out).mono ?_; rintro e w1 ⟨rfl, M1, E1⟩; have d3 := E1.kept (p := ⟨b, 3, none⟩) c3 hb; have g3 := ((HP.out.up (up_drew w0)).else E1 HA.out.b2 HA.out.v2).top.frozen 3))
  have E2 := Lib.hid ((Else.of_up (HU0.out.trans (up_drew w0))).trans E1)
  have P1 := Lib.hid (((HP.out.up (up_drew w0)).else E1 HA.out.b2 HA.out.v2).seen x)
  have M2 := Lib.hid (M1.self HA.out.bp HA.out.bg 3 (.int .u64 x))
  have j2 := P1.out.cells.2.2.1
  have f2 := P1.out.top.frozen 2
  clear M1 E1 c0 c1 c2 c3 c4 k0 k1 k2 k3 d3 g3
  go_wp2_with fail
  go_ret
  refine ⟨rfl, P1.out.count HCT.out, M2.out.self HA.out.bp HA.out.bg _ _, else_self (else_self (E2.out.wide b) (by simp)) (by simp)⟩
set_option maxHeartbeats 4000000 in
theorem rpush_last (E : REnv w p g q hd ln n xs c) (P : RPushAt w b q v l i old false) (A : Apart b p g q v) (hl0 : l ≠ []) (hn : ∀ x ∈ l, x < n) (hl : l.length ≤ 8192) (hi : i = l.length) (h0 : 0 ≤ old) (h1 : old < 18446744073709551616) :
    Calls Tryz.prog 90 #[.pointer (some ⟨b, 0, none⟩)] w fun e w' => e = .returned (.bool true) ∧ RPushAt w' b q v l (i + 1) old false ∧ Ref w' p g (xs.set (ln + l.getD (l.length - 1) 0) (topN n old + 1)) (wrap64 (c + 1)) ∧ Else [b, p, g] w w' := by
  obtain ⟨r, cap, rfl, ds⟩ := P.row.get hl0
  have lp := List.length_pos_iff.2 hl0
  have d0 := ds (l.length - 1) (by omega)
  have m0 := hn _ (Stk.getD_mem (show l.length - 1 < l.length by omega))
  generalize l.getD (l.length - 1) 0 = x at *
  obtain ⟨t0, t1⟩ := topN_in h0 E.n0
  obtain ⟨y, hy⟩ : ∃ y, topN n old = y := ⟨_, rfl⟩
  rw [hy] at t0 t1 ⊢
  have HY := Lib.hid hy
  clear ds
  have n1 := E.n1
  have hlx := E.hl
  have hhx := E.hh
  have htx := E.top
  obtain ⟨K, hK⟩ : ∃ K : Nat, K = l.length := ⟨_, rfl⟩
  have HKL := Lib.hid hK
  rw [← hK] at hi lp hl d0
  have i0 : (0 : Int) ≤ (i : Int) := Int.natCast_nonneg _
  obtain ⟨k, hk⟩ : ∃ k, K - 1 = k := ⟨_, rfl⟩
  rw [hk] at d0
  have e9 : (K : Int) - 1 = (k : Int) := by omega
  have i1 : (k : Int) < (K : Int) := by omega
  have i2 : (0 : Int) ≤ (k : Int) := Int.natCast_nonneg _
  subst hi
  have i4 : ¬ (i : Int) < (k : Int) := by omega
  have i5 : ¬ ((i : Int) = (k : Int)) := by omega
  have HLT := Lib.hid (show ln + x < xs.length by omega)
  have HAD := Lib.hid (show (ln : Int) + (x : Int) = ((ln + x : Nat) : Int) by omega)
  have HCT := Lib.hid (show (i : Int) + 1 = ((i + 1 : Nat) : Int) by omega)
  have s9 : (-9223372036854775808 ≤ (i : Int) + 1 ∧ (i : Int) + 1 ≤ 9223372036854775807) ∧ (-9223372036854775808 ≤ y + 1 ∧ y + 1 ≤ 9223372036854775807) ∧ (0 ≤ y + 1 ∧ y + 1 ≤ 18446744073709551615) ∧ ln + x ≤ 8400000 ∧ (-9223372036854775808 ≤ (i : Int) - 1 ∧ (i : Int) - 1 ≤ 9223372036854775807) ∧ (i : Int) - 1 < 9223372036854775808 := by omega
  obtain ⟨z1, z2, z3, z4, z5, z6⟩ := s9
  have s2 := IntWalk.i64_in ((i : Int) + 1) z1
  obtain ⟨s3, s4⟩ := wrapS (a := ln) (b := x) z4
  have s5 := IntWalk.i64_in (y + 1) z2
  have s6 := IntWalk.u64_in (y + 1) z3
  have sK := (IntWalk.i64_in ((i : Int) - 1) z5).trans e9
  have sK2 := (wrap64_in z5.1 z6).trans e9
  clear z1 z2 z3 z4 z5 z6 e9 hk hl lp
  have hb := A.b2
  have hbq := A.bq
  have hq : q ∉ [p, g] := by simp [E.np, E.ng]
  have hr : r ∉ [p, g] := fun hk => A.v2 r hk rfl
  obtain ⟨c0, c1, c2, c3, c4⟩ := P.cells
  rw [← hK] at c1
  have HP := Lib.hid P
  have HE := Lib.hid E
  have HA := Lib.hid A
  clear P E A hK hn hl0 hy
  go_enter Tryz.func90, Tryz.ntmps90
  go_upto_region 3 with fail
  go_quiet (fail)
  replace HP := Lib.hid (HP.out.up (Up.drewN w nq))
  replace HE := Lib.hid (HE.out.up (Up.drewN w nq))
  have HU0 := Lib.hid (Up.drewN w nq)
  clear c0 c1 c2 c3 c4
  go_upto_region 6 with fail
  generalize w.drewN nq = w0 at *
  obtain ⟨c0, c1, c2, c3, c4⟩ := HP.out.cells
  rw [← HKL.out] at c1
  obtain ⟨k0, k1, k2, k3⟩ := HE.out.cells
  replace d0 := HU0.out.kept d0
  go_upto_region 13 with fail
  go_region_held3 (fun w' => w'.cell? ⟨b, 1, none⟩ = some (.slice (some ⟨r, 0, none⟩) i cap) ∧ w'.cell? ⟨b, 3, none⟩ = some (.int .u64 old) ∧ w'.cell? ⟨r, k, none⟩ = some (.int .i64 x) ∧ w'.cell? ⟨q, 0, none⟩ = some (.pointer (some ⟨p, 0, none⟩)) ∧ w'.cell? ⟨q, 2, none⟩ = some (.int .i64 ln)) ((first | exact ⟨c1, c3, d0, k0, k2⟩ | exact ⟨U1.kept c1, U1.kept c3, U1.kept d0, U1.kept k0, U1.kept k2⟩ | exact ⟨E2.kept (U1.kept c1) hb, E2.kept (U1.kept c3) hb, E2.kept (U1.kept d0) hr, E2.kept (U1.kept k0) hq, E2.kept (U1.kept k2) hq⟩))
    (first
      | (go_at_call 56; refine (rtop_to (HE.out.up (up_drew w0)) h0 h1 HY.out).mono ?_; rintro e w1 ⟨rfl, U1⟩)
      | (go_at_call 126; refine (rstore_to (k := ln + x) _ HAD.out ((HE.out.mem.up (up_drew w0)).up U1) HLT.out).mono ?_; rintro e w2 ⟨rfl, M1, E2⟩))
  have E3 := Lib.hid ((Else.of_up ((HU0.out.trans (up_drew w0)).trans U1)).trans E2)
  have P1 := Lib.hid ((HP.out.up ((up_drew w0).trans U1)).else E2 HA.out.b2 HA.out.v2)
  have M2 := Lib.hid M1
  have j2 := P1.out.cells.2.2.1
  have f2 := P1.out.top.frozen 2
  clear M1 E2 U1 c0 c1 c2 c3 c4 d0 k0 k1 k2 k3
  go_wp2_with fail
  go_ret
  refine ⟨rfl, P1.out.count HCT.out, M2.out.self HA.out.bp HA.out.bg _ _, else_self (E3.out.wide b) (by simp)⟩
set_option maxHeartbeats 4000000 in
theorem rpush_yes (E : REnv w p g q hd ln n xs c) (P : RPushAt w b q v l i old false) (A : Apart b p g q v) (hl0 : l ≠ []) (hn : ∀ x ∈ l, x < n) (hl : l.length ≤ 8192) (hi : i = l.length + 1) (h0 : 0 ≤ old) (h1 : old < 18446744073709551616) (hc : xs.getD hd 0 = old) :
    Calls Tryz.prog 90 #[.pointer (some ⟨b, 0, none⟩)] w fun e w' => e = .returned (.bool true) ∧ RPushAt w' b q v l (l.length - 1) old true ∧ Ref w' p g (xs.set hd (nextW old (l.getD 0 0 : Nat))) (wrap64 (c + 1)) ∧ Else [b, p, g] w w' := by
  obtain ⟨r, cap, rfl, ds⟩ := P.row.get hl0
  have lp := List.length_pos_iff.2 hl0
  have d0 := ds 0 lp
  have m0 := hn _ (Stk.getD_mem lp)
  generalize l.getD 0 0 = x at *
  have HC := Lib.hid hc
  clear ds
  have n1 := E.n1
  have hlx := E.hl
  have hhx := E.hh
  have htx := E.top
  obtain ⟨K, hK⟩ : ∃ K : Nat, K = l.length := ⟨_, rfl⟩
  have HKL := Lib.hid hK
  rw [← hK] at hi lp hl
  have i0 : (0 : Int) ≤ (i : Int) := Int.natCast_nonneg _
  obtain ⟨k, hk⟩ : ∃ k, K - 1 = k := ⟨_, rfl⟩
  have e9 : (K : Int) - 1 = (k : Int) := by omega
  have i1 : (0 : Int) < (K : Int) := by omega
  have i4 : ¬ (i : Int) < (k : Int) := by omega
  have i5 : ¬ ((i : Int) = (k : Int)) := by omega
  have i6 : ¬ ((i : Int) = (K : Int)) := by omega
  have HK9 := Lib.hid (show (k : Int) = ((l.length - 1 : Nat) : Int) by have := HKL.out; omega)
  have HX0 := Lib.hid (show -1 ≤ (x : Int) ∧ (x : Int) ≤ 4096 by omega)
  have s9 : (-9223372036854775808 ≤ (K : Int) - 1 ∧ (K : Int) - 1 ≤ 9223372036854775807) ∧ (K : Int) - 1 < 9223372036854775808 := by omega
  obtain ⟨z5, z6⟩ := s9
  have sK := (IntWalk.i64_in ((K : Int) - 1) z5).trans e9
  have sK2 := (wrap64_in z5.1 z6).trans e9
  clear z5 z6 e9 hk hl hi
  have hb := A.b2
  have hbq := A.bq
  have hq : q ∉ [p, g] := by simp [E.np, E.ng]
  have hr : r ∉ [p, g] := fun hk => A.v2 r hk rfl
  obtain ⟨c0, c1, c2, c3, c4⟩ := P.cells
  rw [← hK] at c1
  have hbr : b ≠ r := fun e => P.away (by rw [e]; rfl)
  have HP := Lib.hid P
  have HE := Lib.hid E
  have HA := Lib.hid A
  clear P E A hK hn hl0 hc
  go_enter Tryz.func90, Tryz.ntmps90
  go_upto_region 3 with fail
  go_quiet (fail)
  replace HP := Lib.hid (HP.out.up (Up.drewN w nq))
  replace HE := Lib.hid (HE.out.up (Up.drewN w nq))
  have HU0 := Lib.hid (Up.drewN w nq)
  clear c0 c1 c2 c3 c4
  go_upto_region 6 with fail
  generalize w.drewN nq = w0 at *
  obtain ⟨c0, c1, c2, c3, c4⟩ := HP.out.cells
  rw [← HKL.out] at c1
  obtain ⟨k0, k1, k2, k3⟩ := HE.out.cells
  replace d0 := HU0.out.kept d0
  go_upto_region 4 with fail
  go_region_held3 (fun w' => w'.cell? ⟨b, 1, none⟩ = some (.slice (some ⟨r, 0, none⟩) K cap) ∧ w'.cell? ⟨b, 3, none⟩ = some (.int .u64 old) ∧ w'.cell? ⟨r, 0, none⟩ = some (.int .i64 x) ∧ w'.cell? ⟨q, 0, none⟩ = some (.pointer (some ⟨p, 0, none⟩)) ∧ w'.cell? ⟨q, 1, none⟩ = some (.int .i64 hd)) ((first | exact ⟨c1, c3, d0, k0, k1⟩ | exact ⟨U1.kept c1, U1.kept c3, U1.kept d0, U1.kept k0, U1.kept k1⟩ | exact ⟨E2.kept (U1.kept c1) hb, E2.kept (U1.kept c3) hb, E2.kept (U1.kept d0) hr, E2.kept (U1.kept k0) hq, E2.kept (U1.kept k1) hq⟩ | exact ⟨kept_set (off_ne (by decide)) (E2.kept (U1.kept c1) hb), kept_set (off_ne (by decide)) (E2.kept (U1.kept c3) hb), kept_set (ad_ne hbr) (E2.kept (U1.kept d0) hr), kept_set (ad_ne hbq) (E2.kept (U1.kept k0) hq), kept_set (ad_ne hbq) (E2.kept (U1.kept k1) hq)⟩))
    (first
      | (go_at_call 125; refine (rnext_in h0 h1 HX0.out.1 HX0.out.2 _).mono ?_; rintro e w1 ⟨rfl, U1⟩)
      | (go_at_call 124; refine (rcas_yes _ ((HE.out.mem.up (up_drew w0)).up U1) hhx HC.out).mono ?_; rintro e w2 ⟨rfl, M1, E2⟩; have d4 := E2.kept (p := ⟨b, 4, none⟩) (U1.kept c4) hb; have g4 := ((HP.out.up ((up_drew w0).trans U1)).else E2 HA.out.b2 HA.out.v2).top.frozen 4))
  have E3 := Lib.hid ((Else.of_up ((HU0.out.trans (up_drew w0)).trans U1)).trans E2)
  have P1 := Lib.hid (((HP.out.up ((up_drew w0).trans U1)).else E2 HA.out.b2 HA.out.v2).fin true)
  have M2 := Lib.hid (M1.self HA.out.bp HA.out.bg 4 (.bool true))
  have j2 := P1.out.cells.2.2.1
  have f2 := P1.out.top.frozen 2
  clear M1 E2 U1 c0 c1 c2 c3 c4 d0 k0 k1 k2 k3 d4 g4
  go_wp2_with fail
  go_ret
  refine ⟨rfl, P1.out.count HK9.out, M2.out.self HA.out.bp HA.out.bg _ _, else_self (else_self (E3.out.wide b) (by simp)) (by simp)⟩
set_option maxHeartbeats 4000000 in
theorem rpush_no (E : REnv w p g q hd ln n xs c) (P : RPushAt w b q v l i old false) (A : Apart b p g q v) (hl0 : l ≠ []) (hn : ∀ x ∈ l, x < n) (hl : l.length ≤ 8192) (hi : i = l.length + 1) (h0 : 0 ≤ old) (h1 : old < 18446744073709551616) (hc : xs.getD hd 0 ≠ old) :
    Calls Tryz.prog 90 #[.pointer (some ⟨b, 0, none⟩)] w fun e w' => e = .returned (.bool true) ∧ RPushAt w' b q v l (l.length - 1) old false ∧ Ref w' p g xs (wrap64 (c + 1)) ∧ Else [b, p, g] w w' := by
  obtain ⟨r, cap, rfl, ds⟩ := P.row.get hl0
  have lp := List.length_pos_iff.2 hl0
  have d0 := ds 0 lp
  have m0 := hn _ (Stk.getD_mem lp)
  generalize l.getD 0 0 = x at *
  have HC := Lib.hid hc
  clear ds
  have n1 := E.n1
  have hlx := E.hl
  have hhx := E.hh
  have htx := E.top
  obtain ⟨K, hK⟩ : ∃ K : Nat, K = l.length := ⟨_, rfl⟩
  have HKL := Lib.hid hK
  rw [← hK] at hi lp hl
  have i0 : (0 : Int) ≤ (i : Int) := Int.natCast_nonneg _
  obtain ⟨k, hk⟩ : ∃ k, K - 1 = k := ⟨_, rfl⟩
  have e9 : (K : Int) - 1 = (k : Int) := by omega
  have i1 : (0 : Int) < (K : Int) := by omega
  have i4 : ¬ (i : Int) < (k : Int) := by omega
  have i5 : ¬ ((i : Int) = (k : Int)) := by omega
  have i6 : ¬ ((i : Int) = (K : Int)) := by omega
  have HK9 := Lib.hid (show (k : Int) = ((l.length - 1 : Nat) : Int) by have := HKL.out; omega)
  have HX0 := Lib.hid (show -1 ≤ (x : Int) ∧ (x : Int) ≤ 4096 by omega)
  have s9 : (-9223372036854775808 ≤ (K : Int) - 1 ∧ (K : Int) - 1 ≤ 9223372036854775807) ∧ (K : Int) - 1 < 9223372036854775808 := by omega
  obtain ⟨z5, z6⟩ := s9
  have sK := (IntWalk.i64_in ((K : Int) - 1) z5).trans e9
  have sK2 := (wrap64_in z5.1 z6).trans e9
  clear z5 z6 e9 hk hl hi
  have hb := A.b2
  have hbq := A.bq
  have hq : q ∉ [p, g] := by simp [E.np, E.ng]
  have hr : r ∉ [p, g] := fun hk => A.v2 r hk rfl
  obtain ⟨c0, c1, c2, c3, c4⟩ := P.cells
  rw [← hK] at c1
  have hbr : b ≠ r := fun e => P.away (by rw [e]; rfl)
  have HP := Lib.hid P
  have HE := Lib.hid E
  have HA := Lib.hid A
  clear P E A hK hn hl0 hc
  go_enter Tryz.func90, Tryz.ntmps90
  go_upto_region 3 with fail
  go_quiet (fail)
  replace HP := Lib.hid (HP.out.up (Up.drewN w nq))
  replace HE := Lib.hid (HE.out.up (Up.drewN w nq))
  have HU0 := Lib.hid (Up.drewN w nq)
  clear c0 c1 c2 c3 c4
  go_upto_region 6 with fail
  generalize w.drewN nq = w0 at *
  obtain ⟨c0, c1, c2, c3, c4⟩ := HP.out.cells
  rw [← HKL.out] at c1
  obtain ⟨k0, k1, k2, k3⟩ := HE.out.cells
  replace d0 := HU0.out.kept d0
  go_upto_region 4 with fail
  go_region_held3 (fun w' => w'.cell? ⟨b, 1, none⟩ = some (.slice (some ⟨r, 0, none⟩) K cap) ∧ w'.cell? ⟨b, 3, none⟩ = some (.int .u64 old) ∧ w'.cell? ⟨r, 0, none⟩ = some (.int .i64 x) ∧ w'.cell? ⟨q, 0, none⟩ = some (.pointer (some ⟨p, 0, none⟩)) ∧ w'.cell? ⟨q, 1, none⟩ = some (.int .i64 hd)) ((first | exact ⟨c1, c3, d0, k0, k1⟩ | exact ⟨U1.kept c1, U1.kept c3, U1.kept d0, U1.kept k0, U1.kept k1⟩ | exact ⟨E2.kept (U1.kept c1) hb, E2.kept (U1.kept c3) hb, E2.kept (U1.kept d0) hr, E2.kept (U1.kept k0) hq, E2.kept (U1.kept k1) hq⟩ | exact ⟨kept_set (off_ne (by decide)) (E2.kept (U1.kept c1) hb), kept_set (off_ne (by decide)) (E2.kept (U1.kept c3) hb), kept_set (ad_ne hbr) (E2.kept (U1.kept d0) hr), kept_set (ad_ne hbq) (E2.kept (U1.kept k0) hq), kept_set (ad_ne hbq) (E2.kept (U1.kept k1) hq)⟩))
    (first
      | (go_at_call 125; refine (rnext_in h0 h1 HX0.out.1 HX0.out.2 _).mono ?_; rintro e w1 ⟨rfl, U1⟩)
      | (go_at_call 124; refine (rcas_no _ ((HE.out.mem.up (up_drew w0)).up U1) hhx HC.out).mono ?_; rintro e w2 ⟨rfl, M1, E2⟩; have d4 := E2.kept (p := ⟨b, 4, none⟩) (U1.kept c4) hb; have g4 := ((HP.out.up ((up_drew w0).trans U1)).else E2 HA.out.b2 HA.out.v2).top.frozen 4))
  have E3 := Lib.hid ((Else.of_up ((HU0.out.trans (up_drew w0)).trans U1)).trans E2)
  have P1 := Lib.hid (((HP.out.up ((up_drew w0).trans U1)).else E2 HA.out.b2 HA.out.v2).fin false)
  have M2 := Lib.hid (M1.self HA.out.bp HA.out.bg 4 (.bool false))
  have j2 := P1.out.cells.2.2.1
  have f2 := P1.out.top.frozen 2
  clear M1 E2 U1 c0 c1 c2 c3 c4 d0 k0 k1 k2 k3 d4 g4
  go_wp2_with fail
  go_ret
  refine ⟨rfl, P1.out.count HK9.out, M2.out.self HA.out.bp HA.out.bg _ _, else_self (else_self (E3.out.wide b) (by simp)) (by simp)⟩
end
end Go.Proofs.YtkopplnjomkleaaGreat
