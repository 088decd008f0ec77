/-
  Texts beneath RootsOnce, part 4: IntMore, Stack0, Ints, Stack1.
-/
import Derived.Test.YtalglhgngedjoaaPart3
import Derived.Deep.RegionLaw
import Derived.Deep.RegionHeld3
import Derived.Deep.DrawnRows
import Derived.StillTailTactics
import Derived.Deep.DeepCutAuto
import Derived.Maps.OwnSet
import Derived.Lib.SliceRun
/-
  More of slices of ints: slices.Clone of whatever list, append as a step of a region that draws, shapes, blocks of an object (Next, less). (Behind IntRow.)
-/
namespace Go.Proofs.Ytalglhgngedjoaa
open Go.RowKit
set_option maxRecDepth 100000

/-- Blocks of before, or new ones. -/
def Next (w : World) (F F' : List Nat) : Prop := ∀ b, b ∈ F' → b ∈ F ∨ w.heap.size ≤ b
section
variable {w w1 w2 w' : World} {n : Nat} {F : List Nat} {v : Value} {a : Int} {xs : List Int}
theorem Next.refl (w : World) (F : List Nat) : Next w F F := fun _ h => .inl h
theorem Next.trans {F' F'' : List Nat} (h : Next w F F') (k : Next w' F' F'') (u : w.heap.size ≤ w'.heap.size) : Next w F F'' := fun b hb => (k b hb).elim (h b) (fun h => .inr (by omega))
set_option maxHeartbeats 1000000 in
theorem clone_any {xs : List Int} (R : Rd w v xs) (hl : xs.length ≤ 8192) :
    Calls Try.prog 75 #[v] w fun e w' => ∃ v', e = .returned v' ∧ Ints w' v' xs ∧ Fresh w v' ∧ Up w w' := by
  obtain ⟨A, cap, rfl⟩ := R.slice
  have q1 : ∀ (w : World) (a : Option Addr) (n c n' c' : Nat), (binOp .eql 22 (.slice a n c) (.slice none n' c')).run Try.prog w = .ok (.bool a.isNone) w := fun w a n c n' c' => Lib.run_eql_slice_nil w _ _ a n c n' c' Try.underlying22
  cases A with
  | none =>
    have e : xs = [] := by
      rcases xs with _ | ⟨x, xs⟩
      · rfl
      · obtain ⟨g, off, h, _⟩ := R.cell (j := 0) (by simp); cases h
    subst e
    clear R
    go_enter Try.func75, Try.ntmps75
    go_wp2_with fail
    go_ret
    exact ⟨_, rfl, Ints.nil _, fresh_nil _, Up.refl _⟩
  | some a =>
    have HR := Lib.hid R
    clear R
    have HO := Lib.hid (ints_of_own (xs := []) (own_empty w) rfl rfl)
    go_enter Try.func75, Try.ntmps75
    go_wp2_with (at_builtin; refine wpList_app rfl _ _ rfl rfl rfl HO.out (HR.out.up (Up.alloc _ _)) (by simpa using hl) ?_; intro v5 w5 J5 G5 A5; have HJ5 := Lib.hid J5; have HG5 := Lib.hid G5; have HA5 := Lib.hid A5; clear J5 G5 A5)
    go_ret
    have f0 : Fresh w (.slice (some ⟨w.heap.size, 0, none⟩) 0 0) := fun k hk => by simp [Value.ownBlock] at hk; omega
    exact ⟨_, rfl, by simpa using HJ5.out, fresh_app f0 (by simp) HA5.out, up_app (Up.alloc _ _) HG5.out f0⟩
/-- The blocks without one slice's. -/
def less (F : List Nat) (v : Value) : List Nat := F.filter (fun b => decide (v.ownBlock ≠ some b))
theorem mem_less {b : Nat} : b ∈ less F v ↔ b ∈ F ∧ v.ownBlock ≠ some b := by simp [less]
theorem fresh_of_le {a b : World} (Fr : Fresh b v) (h : a.heap.size ≤ b.heap.size) : Fresh a v := fun k hk => Nat.le_trans h (Fr k hk)
theorem shapeI {xs : List Int} (h : Ints w v xs) : ∃ A N c, v = .slice A N c := by obtain ⟨A, c, e⟩ := h.slice; exact ⟨A, _, c, e⟩
theorem Else.grown {s : List Nat} {a : World} {row : Option Nat} (h : Else s a w) (g : w.grownBy w' row) (hr : ∀ k, row = some k → k ∈ s ∨ a.heap.size ≤ k) : Else s a w' :=
  ⟨g.os.trans h.os, g.tape.trans h.tape, g.output.trans h.output, Nat.le_trans h.size g.size, fun k hk hs => (g.block k (Nat.lt_of_lt_of_le hk h.size) (fun e => by rcases hr k e.symm with h' | h'; exact hs h'; omega)).trans (h.block k hk hs)⟩
def nOf : Value → Nat
  | .slice _ n _ => n
  | _ => 0
theorem Ints.nOf {xs : List Int} (h : Ints w v xs) : nOf v = xs.length := by obtain ⟨A, c, rfl⟩ := h.slice; rfl
theorem Ints.one {c : Nat} {A : Option Addr} (J : Ints w (.slice A n c) [a]) : ∃ g, A = some ⟨g, 0, none⟩ ∧ w.cell? ⟨g, 0, none⟩ = some (.int .i64 a) := by
  obtain ⟨A', c', e⟩ := J.slice
  injection e with e1 e2 e3
  subst e1 e2 e3
  obtain ⟨g, h1, h2⟩ := own_cell (j := 0) J (by simp)
  exact ⟨g, h1, by simpa using h2⟩
theorem away_next {F' : List Nat} (A : Away v F) (N : Next w F F') (J : Ints w v xs) : Away v F' := fun b hb e => by
  rcases N b hb with h | h
  · exact A b h e
  · have := J.lt e; omega
/-- append as one step of a region that draws its order. -/
theorem step_app {v2 : Value} {xs ys : List Int} {ops : Array Oper} {o : Oper} {a : Act} {K : Act → World → Prop} {Q : Exit → Act → World → Prop} {E : Prop} (hgd : o.guard = none) (s x : Operand)
    (ho : o.op = .call { callee := .builtin .append, args := #[s, x], argTypes := #[22, 22] }) (hs : a.eval s = v) (hx : a.eval x = v2) (J : Ints w v xs) (Rd2 : Rd w v2 ys) (hl : xs.length + ys.length ≤ 8192)
    (h : ∀ v' w', Ints w' v' (xs ++ ys) → w.grownBy w' v.ownBlock → (v'.ownBlock = v.ownBlock ∨ v'.ownBlock = some w.heap.size) → K (a.put o.dst v') w') : if Region.wanted o (yielded ops a.tmps) = true then Oper.wp Try.prog o a w K Q else E := by
  have hw : Region.wanted o (yielded ops a.tmps) = true := by simp [Region.wanted, hgd]
  rw [if_pos hw]
  exact wp_app s x ho hs hx J Rd2 hl h
theorem wf_bounds {x : Int} (h : (Lit.int .i64 x).wf = true) : -9223372036854775808 ≤ x ∧ x < 9223372036854775808 := by
  simp [Lit.wf, IntKind.min, IntKind.max, IntKind.bits, IntKind.signed] at h; omega
theorem row_wf {w : World} {a : Option Addr} {len cap : Nat} {zs : List Int} (h : IsRow .i64 w a len cap zs) {k : Nat} (hk : k < len) : (Lit.int .i64 (zs.getD k 0)).wf = true := by
  rcases h with ⟨_, rfl, _, _⟩ | ⟨x, _, hl, hm, hz, _, hw⟩
  · omega
  · exact hw _ (get_mem (by omega))
end
end Go.Proofs.Ytalglhgngedjoaa

/-
  Package stack: the stack over its cells (Env), what a word tells (topN, belowN, nextW), the small functions, New.
-/
namespace Go.Proofs.Ytalglhgngedjoaa
open Go.RowKit
open W64
set_option maxRecDepth 100000

/-- The item that a head's word tells, and a link's; -1: none. -/
def topN (n x : Int) : Int := if n ≤ x % 4294967296 - 1 then -1 else x % 4294967296 - 1
def belowN (n x : Int) : Int := if n < x then -1 else x - 1
/-- The head's word behind an exchange. -/
def nextW (x i : Int) : Int := headV i (nextT (x / 4294967296))
theorem nextW_in (x i : Int) : 0 ≤ nextW x i ∧ nextW x i < 18446744073709551616 := headV_in _ _
/-- A stack lies at q, over the memory at p, whose cells lie at g. -/
structure Env (w : World) (p g q hd ln n : Nat) (s : St) : Prop where
  mem : Mem w p g s
  stk : Whole w q 104 #[.pointer (some ⟨p, 0, none⟩), .int .i64 hd, .int .i64 ln, .int .i64 n]
  ok : s.Ok
  np : q ≠ p
  ng : q ≠ g
  n0 : 1 ≤ n
  n1 : n ≤ 4096
  hh : hd < s.xs.length
  hl : ln + n ≤ s.xs.length
  top : s.xs.length ≤ 8388608
  far : hd < ln ∨ ln + n ≤ hd
section
variable {w w' : World} {p g q hd ln n : Nat} {s : St}
theorem Env.up (E : Env w p g q hd ln n s) (u : Up w w') : Env w' p g q hd ln n s := ⟨E.mem.up u, E.stk.up u, E.ok, E.np, E.ng, E.n0, E.n1, E.hh, E.hl, E.top, E.far⟩
theorem Env.else (E : Env w p g q hd ln n s) {l : List Nat} (u : Else l w w') (h1 : p ∉ l) (h2 : g ∉ l) (h3 : q ∉ l) : Env w' p g q hd ln n s :=
  ⟨E.mem.else u h1 h2, u.whole E.stk h3, E.ok, E.np, E.ng, E.n0, E.n1, E.hh, E.hl, E.top, E.far⟩
/-- Behind a call that turns the memory. -/
theorem Env.turn (E : Env w p g q hd ln n s) {s' : St} (m : Mem w' p g s') (u : Else [p, g] w w') (ok : s'.Ok) (hl : s'.xs.length = s.xs.length) : Env w' p g q hd ln n s' :=
  ⟨m, u.whole E.stk (by simp [E.np, E.ng]), ok, E.np, E.ng, E.n0, E.n1, hl ▸ E.hh, hl ▸ E.hl, hl ▸ E.top, E.far⟩
theorem Env.cells (E : Env w p g q hd ln n s) : w.cell? ⟨q, 0, none⟩ = some (.pointer (some ⟨p, 0, none⟩)) ∧ w.cell? ⟨q, 1, none⟩ = some (.int .i64 hd) ∧ w.cell? ⟨q, 2, none⟩ = some (.int .i64 ln) ∧ w.cell? ⟨q, 3, none⟩ = some (.int .i64 n) :=
  ⟨E.stk.cell rfl, E.stk.cell rfl, E.stk.cell rfl, E.stk.cell rfl⟩
theorem Env.hasH (E : Env w p g q hd ln n s) : s.has hd := ⟨by omega, by have := E.hh; omega⟩
theorem Env.hasL (E : Env w p g q hd ln n s) {i : Int} (h0 : 0 ≤ i) (h1 : i < n) : s.has (ln + i) := ⟨by omega, by have := E.hl; omega⟩
set_option maxHeartbeats 400000 in
theorem asLink_any (x : Int) (h0 : -1 ≤ x) (h1 : x < 9223372036854775807) (w : World) :
    Calls Try.prog 64 #[.int .i64 x] w fun e w' => e = .returned (.int .u64 (x + 1)) ∧ w = w' := by
  have e1 : IntKind.i64.wrap (x + 1) = x + 1 := IntWalk.i64_in _ (by omega)
  have e2 : IntKind.u64.wrap (x + 1) = x + 1 := IntWalk.u64_in _ (by omega)
  go_enter Try.func64, Try.ntmps64
  go_wp2
  go_ret
  refine ⟨ret_int ?_, rfl⟩
  first | rfl | (rw [wrap64_in (by omega) (by omega)]; exact e2)
theorem asLink_to {x y : Int} (e : x + 1 = y) (h0 : -1 ≤ x) (h1 : x < 9223372036854775807) (w : World) :
    Calls Try.prog 64 #[.int .i64 x] w fun e w' => e = .returned (.int .u64 y) ∧ w = w' := e ▸ asLink_any x h0 h1 w

theorem run_index (i t : Int) (w : World) : (Instr.field 108 (.agg #[.int .i64 i, .int .i64 t]) 0).run Try.prog w = .ok (.int .i64 i) w := by
  rfl
set_option maxHeartbeats 400000 in
theorem ofHead_in (E : Env w p g q hd ln n s) {x : Int} (h0 : 0 ≤ x) (h1 : x < 18446744073709551616) :
    Calls Try.prog 73 #[.pointer (some ⟨q, 0, none⟩), .int .u64 x] w fun e w' => e = .returned (.int .i64 (topN n x)) ∧ Up w w' := by
  have c3 := E.cells.2.2.2
  have hf := run_index
  by_cases h : (n : Int) ≤ x % 4294967296 - 1
  · have e : topN n x = -1 := by unfold topN; rw [if_pos h]
    rw [e]
    have c := Lib.hid c3
    go_enter Try.func73, Try.ntmps73
    go_wp2_with (go_at_call 83; refine (getHead_any x _ h0 h1).mono ?_; rintro e w1 ⟨rfl, U1⟩; have c4 := U1.kept c.out)
    go_ret
    exact ⟨rfl, U1⟩
  · have e : topN n x = x % 4294967296 - 1 := by unfold topN; rw [if_neg h]
    rw [e]
    have c := Lib.hid c3
    go_enter Try.func73, Try.ntmps73
    go_wp2_with (go_at_call 83; refine (getHead_any x _ h0 h1).mono ?_; rintro e w1 ⟨rfl, U1⟩; have c4 := U1.kept c.out)
    go_ret
    exact ⟨rfl, U1⟩
theorem ofHead_to (E : Env w p g q hd ln n s) {x y : Int} (h0 : 0 ≤ x) (h1 : x < 18446744073709551616) (e : topN n x = y) :
    Calls Try.prog 73 #[.pointer (some ⟨q, 0, none⟩), .int .u64 x] w fun e w' => e = .returned (.int .i64 y) ∧ Up w w' := e ▸ ofHead_in E h0 h1

set_option maxHeartbeats 400000 in
theorem ofLink_in (E : Env w p g q hd ln n s) {x : Int} (h0 : 0 ≤ x) (h1 : x < 18446744073709551616) :
    Calls Try.prog 84 #[.pointer (some ⟨q, 0, none⟩), .int .u64 x] w fun e w' => e = .returned (.int .i64 (belowN n x)) ∧ w = w' := by
  have c3 := E.cells.2.2.2
  have n1 := E.n1
  have e1 : IntKind.u64.wrap (n : Int) = n := IntWalk.u64_in _ (by omega)
  by_cases h : (n : Int) < x
  · have e : belowN n x = -1 := by unfold belowN; rw [if_pos h]
    rw [e]
    go_enter Try.func84, Try.ntmps84
    go_wp2
    go_ret
    exact ⟨rfl, rfl⟩
  · have e : belowN n x = x - 1 := by unfold belowN; rw [if_neg h]
    rw [e]
    have e2 : IntKind.i64.wrap x = x := IntWalk.i64_in _ (by omega)
    have e3 : wrap64 (x - 1) = x - 1 := wrap64_in (by omega) (by omega)
    go_enter Try.func84, Try.ntmps84
    go_wp2
    go_ret
    refine ⟨ret_int ?_, rfl⟩
    first | rfl | exact e3 | omega
theorem ofLink_to (E : Env w p g q hd ln n s) {x y : Int} (h0 : 0 ≤ x) (h1 : x < 18446744073709551616) (e : belowN n x = y) :
    Calls Try.prog 84 #[.pointer (some ⟨q, 0, none⟩), .int .u64 x] w fun e w' => e = .returned (.int .i64 y) ∧ w = w' := e ▸ ofLink_in E h0 h1

set_option maxHeartbeats 400000 in
theorem isCell_any (m : Mem w p g s) (i : Int) :
    Calls Try.prog 62 #[.pointer (some ⟨p, 0, none⟩), .int .i64 i] w fun e w' => e = .returned (.bool (decide (s.has i))) ∧ w = w' := by
  have hm := Lib.hid m
  clear m
  by_cases h0 : 0 ≤ i
  · by_cases h1 : i < s.xs.length
    · have e : decide (s.has i) = true := decide_eq_true ⟨h0, h1⟩
      rw [e]
      go_enter Try.func62, Try.ntmps62
      go_wp2_with (go_at_call 37; refine (len_any hm.out).mono ?_; rintro e w1 ⟨rfl, rfl⟩)
      go_ret
      exact ⟨rfl, rfl⟩
    · have e : decide (s.has i) = false := decide_eq_false fun h => h1 h.2
      rw [e]
      go_enter Try.func62, Try.ntmps62
      go_wp2_with (go_at_call 37; refine (len_any hm.out).mono ?_; rintro e w1 ⟨rfl, rfl⟩)
      go_ret
      exact ⟨ret_bool (decide_eq_false (by omega)), rfl⟩
  · have e : decide (s.has i) = false := decide_eq_false fun h => h0 h.1
    rw [e]
    go_enter Try.func62, Try.ntmps62
    go_wp2_with fail
    go_ret
    exact ⟨rfl, rfl⟩
theorem isCell_to (m : Mem w p g s) {i : Int} {b : Bool} (h : decide (s.has i) = b) :
    Calls Try.prog 62 #[.pointer (some ⟨p, 0, none⟩), .int .i64 i] w fun e w' => e = .returned (.bool b) ∧ w = w' := h ▸ isCell_any m i
/-- May there be a stack over these cells? -/
def newB (s : St) (hd ln n : Int) : Prop := 1 ≤ n ∧ n ≤ 4096 ∧ s.has hd ∧ s.has ln ∧ s.has (ln + n - 1) ∧ ¬ (ln ≤ hd ∧ hd ≤ ln + n - 1)
set_option maxHeartbeats 1000000 in
theorem snew_no (m : Mem w p g s) {hd ln n : Int} (hs : s.xs.length ≤ 8388608) (h : ¬ newB s hd ln n) :
    Calls Try.prog 38 #[.pointer (some ⟨p, 0, none⟩), .int .i64 hd, .int .i64 ln, .int .i64 n] w fun e w' => e = .returned (.tuple #[.pointer none, .int .i64 1]) ∧ w = w' := by
  have hm := Lib.hid m
  clear m
  by_cases h0 : 1 ≤ n
  rotate_left
  · go_enter Try.func38, Try.ntmps38
    go_wp2_with fail
    go_ret2
    exact ⟨rfl, rfl⟩
  by_cases h1 : n ≤ 4096
  rotate_left
  · go_enter Try.func38, Try.ntmps38
    go_wp2_with fail
    go_ret2
    exact ⟨rfl, rfl⟩
  by_cases h2 : s.has hd
  rotate_left
  · have e2 := Lib.hid (decide_eq_false h2)
    go_enter Try.func38, Try.ntmps38
    go_wp2_with (go_at_call 62; (with_reducible refine (isCell_to hm.out e2.out).mono ?_); rintro e w1 ⟨rfl, rfl⟩)
    go_ret2
    exact ⟨rfl, rfl⟩
  have e2 := Lib.hid (decide_eq_true h2)
  by_cases h3 : s.has ln
  rotate_left
  · have e3 := Lib.hid (decide_eq_false h3)
    go_enter Try.func38, Try.ntmps38
    go_wp2_with (first
      | (go_at_call 62; (with_reducible refine (isCell_to hm.out e2.out).mono ?_); rintro e w1 ⟨rfl, rfl⟩)
      | (go_at_call 62; (with_reducible refine (isCell_to hm.out e3.out).mono ?_); rintro e w1 ⟨rfl, rfl⟩))
    go_ret2
    exact ⟨rfl, rfl⟩
  have e3 := Lib.hid (decide_eq_true h3)
  have l0 := h3.1
  have l1 := h3.2
  have a1 : wrap64 (ln + n) = ln + n := wrap64_in (by omega) (by omega)
  have a2 : wrap64 (ln + n - 1) = ln + n - 1 := wrap64_in (by omega) (by omega)
  by_cases h4 : s.has (ln + n - 1)
  rotate_left
  · have e4 := Lib.hid (decide_eq_false h4)
    clear h2 h3 h4 h
    go_enter Try.func38, Try.ntmps38
    go_wp2_with (first
      | (go_at_call 62; (with_reducible refine (isCell_to hm.out e2.out).mono ?_); rintro e w1 ⟨rfl, rfl⟩)
      | (go_at_call 62; (with_reducible refine (isCell_to hm.out e3.out).mono ?_); rintro e w1 ⟨rfl, rfl⟩)
      | (go_at_call 62; (with_reducible refine (isCell_to hm.out e4.out).mono ?_); rintro e w1 ⟨rfl, rfl⟩))
    go_ret2
    exact ⟨rfl, rfl⟩
  have e4 := Lib.hid (decide_eq_true h4)
  have h5 : ln ≤ hd ∧ hd ≤ ln + n - 1 := by
    by_cases c : ln ≤ hd ∧ hd ≤ ln + n - 1
    · exact c
    · exact absurd ⟨h0, h1, h2, h3, h4, c⟩ h
  obtain ⟨h5, h6⟩ := h5
  clear h2 h3 h4 h
  go_enter Try.func38, Try.ntmps38
  go_wp2_with (first
    | (go_at_call 62; (with_reducible refine (isCell_to hm.out e2.out).mono ?_); rintro e w1 ⟨rfl, rfl⟩)
    | (go_at_call 62; (with_reducible refine (isCell_to hm.out e3.out).mono ?_); rintro e w1 ⟨rfl, rfl⟩)
    | (go_at_call 62; (with_reducible refine (isCell_to hm.out e4.out).mono ?_); rintro e w1 ⟨rfl, rfl⟩))
  go_ret2
  exact ⟨rfl, rfl⟩
set_option maxHeartbeats 1000000 in
theorem snew_yes (m : Mem w p g s) {hd ln n : Int} (hs : s.xs.length ≤ 8388608) (h : newB s hd ln n) :
    Calls Try.prog 38 #[.pointer (some ⟨p, 0, none⟩), .int .i64 hd, .int .i64 ln, .int .i64 n] w fun e w' => e = .returned (.tuple #[.pointer (some ⟨w.heap.size, 0, none⟩), .int .i64 0]) ∧ Up w w' ∧ Whole w' w.heap.size 104 #[.pointer (some ⟨p, 0, none⟩), .int .i64 hd, .int .i64 ln, .int .i64 n] := by
  have hm := Lib.hid m
  clear m
  obtain ⟨h0, h1, h2, h3, h4, h5⟩ := h
  have e2 := Lib.hid (decide_eq_true h2)
  have e3 := Lib.hid (decide_eq_true h3)
  have e4 := Lib.hid (decide_eq_true h4)
  have l0 := h3.1
  have l1 := h3.2
  have a1 : wrap64 (ln + n) = ln + n := wrap64_in (by omega) (by omega)
  have a2 : wrap64 (ln + n - 1) = ln + n - 1 := wrap64_in (by omega) (by omega)
  clear h2 h3 h4
  by_cases h6 : ln ≤ hd
  · have h7 : ¬ hd ≤ ln + n - 1 := fun c => h5 ⟨h6, c⟩
    clear h5
    go_enter Try.func38, Try.ntmps38
    go_wp2_with (first
      | (go_at_call 62; (with_reducible refine (isCell_to hm.out e2.out).mono ?_); rintro e w1 ⟨rfl, rfl⟩)
      | (go_at_call 62; (with_reducible refine (isCell_to hm.out e3.out).mono ?_); rintro e w1 ⟨rfl, rfl⟩)
      | (go_at_call 62; (with_reducible refine (isCell_to hm.out e4.out).mono ?_); rintro e w1 ⟨rfl, rfl⟩))
    go_ret2
    exact ⟨rfl, Up.alloc _ _, Whole.new _ _ _⟩
  · clear h5
    go_enter Try.func38, Try.ntmps38
    go_wp2_with (first
      | (go_at_call 62; (with_reducible refine (isCell_to hm.out e2.out).mono ?_); rintro e w1 ⟨rfl, rfl⟩)
      | (go_at_call 62; (with_reducible refine (isCell_to hm.out e3.out).mono ?_); rintro e w1 ⟨rfl, rfl⟩)
      | (go_at_call 62; (with_reducible refine (isCell_to hm.out e4.out).mono ?_); rintro e w1 ⟨rfl, rfl⟩))
    go_ret2
    exact ⟨rfl, Up.alloc _ _, Whole.new _ _ _⟩
end
end Go.Proofs.Ytalglhgngedjoaa

/-
  Slices of ints: one that is read (Rd), one that is the whole of a block of its own (Ints); a set of ints in a map; slices.Clone; areItems.
-/
namespace Go.Proofs.Ytalglhgngedjoaa
open Go.RowKit
open Go.Maps
set_option maxRecDepth 100000

def I (l : List Nat) : List Int := l.map (fun x : Nat => (x : Int))
theorem I_len (l : List Nat) : (I l).length = l.length := by simp [I]
theorem I_get {l : List Nat} {j : Nat} (h : j < l.length) : (I l).getD j 0 = (l.getD j 0 : Nat) := by simp [I, List.getD, h]
/-! ### A set of ints, in a map of the call's own -/
def SetAt (w : World) (b k : Nat) (xs : List Int) : Prop :=
  ∃ D : DataW Unit, w.ownsMap Try.prog 3 (plainElem Try.prog 4) b k D ∧ ∀ i : Int, D.atKey (.int .i64 i) (.lit (.bool false)) = .lit (.bool (decide (i ∈ xs)))
theorem keyLaw : Keyed Try.prog 3 := int_keyed Try.underlying3
theorem zeroB (w : World) : (zeroValue 4).run Try.prog w = .ok (.bool false) w := by kernel_rfl
theorem plain_bool_inv {v : Value} {d : DataW Unit} {ps : List MemPlace} {x : Bool} (h : plainElem Try.prog 4 v = some (d, ps)) (hd : d = .lit (.bool x)) : v = .bool x := by
  unfold plainElem at h
  rw [Try.underlying4] at h
  cases v <;> simp at h
  rw [← h.1] at hd
  simpa using hd
theorem SetAt.made (w : World) : SetAt (w.alloc (.map #[] 0)) w.heap.size 0 [] :=
  ⟨.map [], World.ownsMap_made _ _ _ _, fun i => by simp [DataW.atKey]⟩
theorem SetAt.lt {w : World} {b k : Nat} {xs : List Int} (h : SetAt w b k xs) : b < w.heap.size := by
  obtain ⟨D, ho, _⟩ := h; exact ho.lt
end Go.Proofs.Ytalglhgngedjoaa

/-
  Package stack: areItems; slices.Clone of ints.
-/
namespace Go.Proofs.Ytalglhgngedjoaa
open Go.RowKit
set_option maxRecDepth 100000

/-- Items, none twice. -/
def Good (n : Nat) (xs : List Int) : Prop := (∀ x ∈ xs, 0 ≤ x ∧ x < n) ∧ xs.Nodup
instance (n : Nat) (xs : List Int) : Decidable (Good n xs) := inferInstanceAs (Decidable (_ ∧ _))
theorem good_nil (n : Nat) : Good n [] := ⟨by simp, List.nodup_nil⟩
theorem good_step {n k : Nat} {xs : List Int} (h : Good n (xs.take k)) (hk : k < xs.length) {x : Int} (hx : xs.getD k 0 = x) (h0 : 0 ≤ x) (h1 : x < n) (h2 : x ∉ xs.take k) : Good n (xs.take (k + 1)) := by
  rw [take_get hk, hx]
  refine ⟨fun y hy => ?_, ?_⟩
  · rcases List.mem_append.1 hy with hy | hy
    · exact h.1 y hy
    · simp at hy; subst hy; exact ⟨h0, h1⟩
  · rw [List.nodup_append]
    refine ⟨h.2, by simp, fun a ha b hb => ?_⟩
    simp at hb; subst hb
    intro e; subst e; exact h2 ha
theorem not_good {n k : Nat} {xs : List Int} (hk : k < xs.length) {x : Int} (hx : xs.getD k 0 = x) (h : x < 0 ∨ (n : Int) ≤ x ∨ x ∈ xs.take k) : ¬ Good n xs := by
  intro ⟨g1, g2⟩
  have hm := g1 _ (get_mem hk)
  rw [hx] at hm
  rcases h with h | h | h
  · omega
  · omega
  · have e : xs = xs.take k ++ xs.getD k 0 :: xs.drop (k + 1) := by
      simp [List.getD, hk]
    rw [e, List.nodup_append] at g2
    exact g2.2.2 x h _ (by simp) hx.symm
theorem wf_small {x : Int} (h0 : 0 ≤ x) (h1 : x < 4096) : (Lit.int .i64 x).wf = true := WalkArith.wf_i64 (by omega)

section
variable {w : World} {p g q hd ln n : Nat} {s : St}
end

end Go.Proofs.Ytalglhgngedjoaa
