/-
  Texts beneath SupplyAll, part 9: Stack0, Ints, ProSup, Stack1.
-/
import Derived.Test.YtkopplnjomkleaaGreatPart8
import Derived.Deep.RegionHeld3
import Derived.Deep.DrawnRows
import Derived.StillTailTactics
import Derived.Deep.DeepCutAuto
import Derived.Maps.OwnSet
import Derived.Lib.SliceRun
/-
  Package stack: the stack over its cells (Env), what a word tells (topN, belowN, nextW), the small functions, New.
-/
namespace Go.Proofs.YtkopplnjomkleaaGreat
open Go.RowKit
open W64
set_option maxRecDepth 100000

/-- The item that a head's word tells, and a link's; -1: none. -/
def topN (n x : Int) : Int := if n ≤ x % 4294967296 - 1 then -1 else x % 4294967296 - 1
def belowN (n x : Int) : Int := if n < x then -1 else x - 1
/-- The head's word behind an exchange. -/
def nextW (x i : Int) : Int := headV i (nextT (x / 4294967296))
theorem nextW_in (x i : Int) : 0 ≤ nextW x i ∧ nextW x i < 18446744073709551616 := headV_in _ _
/-- A stack lies at q, over the memory at p, whose cells lie at g. -/
structure Env (w : World) (p g q hd ln n : Nat) (s : St) : Prop where
  mem : Mem w p g s
  stk : Whole w q 109 #[.pointer (some ⟨p, 0, none⟩), .int .i64 hd, .int .i64 ln, .int .i64 n]
  ok : s.Ok
  np : q ≠ p
  ng : q ≠ g
  n0 : 1 ≤ n
  n1 : n ≤ 4096
  hh : hd < s.xs.length
  hl : ln + n ≤ s.xs.length
  top : s.xs.length ≤ 8388608
  far : hd < ln ∨ ln + n ≤ hd
section
variable {w w' : World} {p g q hd ln n : Nat} {s : St}
theorem Env.up (E : Env w p g q hd ln n s) (u : Up w w') : Env w' p g q hd ln n s := ⟨E.mem.up u, E.stk.up u, E.ok, E.np, E.ng, E.n0, E.n1, E.hh, E.hl, E.top, E.far⟩
theorem Env.else (E : Env w p g q hd ln n s) {l : List Nat} (u : Else l w w') (h1 : p ∉ l) (h2 : g ∉ l) (h3 : q ∉ l) : Env w' p g q hd ln n s :=
  ⟨E.mem.else u h1 h2, u.whole E.stk h3, E.ok, E.np, E.ng, E.n0, E.n1, E.hh, E.hl, E.top, E.far⟩
/-- Behind a call that turns the memory. -/
theorem Env.turn (E : Env w p g q hd ln n s) {s' : St} (m : Mem w' p g s') (u : Else [p, g] w w') (ok : s'.Ok) (hl : s'.xs.length = s.xs.length) : Env w' p g q hd ln n s' :=
  ⟨m, u.whole E.stk (by simp [E.np, E.ng]), ok, E.np, E.ng, E.n0, E.n1, hl ▸ E.hh, hl ▸ E.hl, hl ▸ E.top, E.far⟩
theorem Env.cells (E : Env w p g q hd ln n s) : w.cell? ⟨q, 0, none⟩ = some (.pointer (some ⟨p, 0, none⟩)) ∧ w.cell? ⟨q, 1, none⟩ = some (.int .i64 hd) ∧ w.cell? ⟨q, 2, none⟩ = some (.int .i64 ln) ∧ w.cell? ⟨q, 3, none⟩ = some (.int .i64 n) :=
  ⟨E.stk.cell rfl, E.stk.cell rfl, E.stk.cell rfl, E.stk.cell rfl⟩
theorem Env.hasH (E : Env w p g q hd ln n s) : s.has hd := ⟨by omega, by have := E.hh; omega⟩
theorem Env.hasL (E : Env w p g q hd ln n s) {i : Int} (h0 : 0 ≤ i) (h1 : i < n) : s.has (ln + i) := ⟨by omega, by have := E.hl; omega⟩
set_option maxHeartbeats 400000 in
theorem asLink_any (x : Int) (h0 : -1 ≤ x) (h1 : x < 9223372036854775807) (w : World) :
    Calls Tryz.prog 118 #[.int .i64 x] w fun e w' => e = .returned (.int .u64 (x + 1)) ∧ w = w' := by
  have e1 : IntKind.i64.wrap (x + 1) = x + 1 := IntWalk.i64_in _ (by omega)
  have e2 : IntKind.u64.wrap (x + 1) = x + 1 := IntWalk.u64_in _ (by omega)
  go_enter Tryz.func118, Tryz.ntmps118
  go_wp2
  go_ret
  refine ⟨ret_int ?_, rfl⟩
  first | rfl | (rw [wrap64_in (by omega) (by omega)]; exact e2)
theorem asLink_to {x y : Int} (e : x + 1 = y) (h0 : -1 ≤ x) (h1 : x < 9223372036854775807) (w : World) :
    Calls Tryz.prog 118 #[.int .i64 x] w fun e w' => e = .returned (.int .u64 y) ∧ w = w' := e ▸ asLink_any x h0 h1 w

theorem run_index (i t : Int) (w : World) : (Instr.field 161 (.agg #[.int .i64 i, .int .i64 t]) 0).run Tryz.prog w = .ok (.int .i64 i) w := by
  rfl
set_option maxHeartbeats 400000 in
theorem ofHead_in (E : Env w p g q hd ln n s) {x : Int} (h0 : 0 ≤ x) (h1 : x < 18446744073709551616) :
    Calls Tryz.prog 54 #[.pointer (some ⟨q, 0, none⟩), .int .u64 x] w fun e w' => e = .returned (.int .i64 (topN n x)) ∧ Up w w' := by
  have c3 := E.cells.2.2.2
  have hf := run_index
  by_cases h : (n : Int) ≤ x % 4294967296 - 1
  · have e : topN n x = -1 := by unfold topN; rw [if_pos h]
    rw [e]
    have c := Lib.hid c3
    go_enter Tryz.func54, Tryz.ntmps54
    go_wp2_with (go_at_call 104; refine (getHead_any x _ h0 h1).mono ?_; rintro e w1 ⟨rfl, U1⟩; have c4 := U1.kept c.out)
    go_ret
    exact ⟨rfl, U1⟩
  · have e : topN n x = x % 4294967296 - 1 := by unfold topN; rw [if_neg h]
    rw [e]
    have c := Lib.hid c3
    go_enter Tryz.func54, Tryz.ntmps54
    go_wp2_with (go_at_call 104; refine (getHead_any x _ h0 h1).mono ?_; rintro e w1 ⟨rfl, U1⟩; have c4 := U1.kept c.out)
    go_ret
    exact ⟨rfl, U1⟩
theorem ofHead_to (E : Env w p g q hd ln n s) {x y : Int} (h0 : 0 ≤ x) (h1 : x < 18446744073709551616) (e : topN n x = y) :
    Calls Tryz.prog 54 #[.pointer (some ⟨q, 0, none⟩), .int .u64 x] w fun e w' => e = .returned (.int .i64 y) ∧ Up w w' := e ▸ ofHead_in E h0 h1

set_option maxHeartbeats 400000 in
theorem ofLink_in (E : Env w p g q hd ln n s) {x : Int} (h0 : 0 ≤ x) (h1 : x < 18446744073709551616) :
    Calls Tryz.prog 55 #[.pointer (some ⟨q, 0, none⟩), .int .u64 x] w fun e w' => e = .returned (.int .i64 (belowN n x)) ∧ w = w' := by
  have c3 := E.cells.2.2.2
  have n1 := E.n1
  have e1 : IntKind.u64.wrap (n : Int) = n := IntWalk.u64_in _ (by omega)
  by_cases h : (n : Int) < x
  · have e : belowN n x = -1 := by unfold belowN; rw [if_pos h]
    rw [e]
    go_enter Tryz.func55, Tryz.ntmps55
    go_wp2
    go_ret
    exact ⟨rfl, rfl⟩
  · have e : belowN n x = x - 1 := by unfold belowN; rw [if_neg h]
    rw [e]
    have e2 : IntKind.i64.wrap x = x := IntWalk.i64_in _ (by omega)
    have e3 : wrap64 (x - 1) = x - 1 := wrap64_in (by omega) (by omega)
    go_enter Tryz.func55, Tryz.ntmps55
    go_wp2
    go_ret
    refine ⟨ret_int ?_, rfl⟩
    first | rfl | exact e3 | omega
theorem ofLink_to (E : Env w p g q hd ln n s) {x y : Int} (h0 : 0 ≤ x) (h1 : x < 18446744073709551616) (e : belowN n x = y) :
    Calls Tryz.prog 55 #[.pointer (some ⟨q, 0, none⟩), .int .u64 x] w fun e w' => e = .returned (.int .i64 y) ∧ w = w' := e ▸ ofLink_in E h0 h1

set_option maxHeartbeats 400000 in
theorem isCell_any (m : Mem w p g s) (i : Int) :
    Calls Tryz.prog 116 #[.pointer (some ⟨p, 0, none⟩), .int .i64 i] w fun e w' => e = .returned (.bool (decide (s.has i))) ∧ w = w' := by
  have hm := Lib.hid m
  clear m
  by_cases h0 : 0 ≤ i
  · by_cases h1 : i < s.xs.length
    · have e : decide (s.has i) = true := decide_eq_true ⟨h0, h1⟩
      rw [e]
      go_enter Tryz.func116, Tryz.ntmps116
      go_wp2_with (go_at_call 72; refine (len_any hm.out).mono ?_; rintro e w1 ⟨rfl, rfl⟩)
      go_ret
      exact ⟨rfl, rfl⟩
    · have e : decide (s.has i) = false := decide_eq_false fun h => h1 h.2
      rw [e]
      go_enter Tryz.func116, Tryz.ntmps116
      go_wp2_with (go_at_call 72; refine (len_any hm.out).mono ?_; rintro e w1 ⟨rfl, rfl⟩)
      go_ret
      exact ⟨ret_bool (decide_eq_false (by omega)), rfl⟩
  · have e : decide (s.has i) = false := decide_eq_false fun h => h0 h.1
    rw [e]
    go_enter Tryz.func116, Tryz.ntmps116
    go_wp2_with fail
    go_ret
    exact ⟨rfl, rfl⟩
theorem isCell_to (m : Mem w p g s) {i : Int} {b : Bool} (h : decide (s.has i) = b) :
    Calls Tryz.prog 116 #[.pointer (some ⟨p, 0, none⟩), .int .i64 i] w fun e w' => e = .returned (.bool b) ∧ w = w' := h ▸ isCell_any m i
/-- May there be a stack over these cells? -/
def newB (s : St) (hd ln n : Int) : Prop := 1 ≤ n ∧ n ≤ 4096 ∧ s.has hd ∧ s.has ln ∧ s.has (ln + n - 1) ∧ ¬ (ln ≤ hd ∧ hd ≤ ln + n - 1)
set_option maxHeartbeats 1000000 in
theorem snew_no (m : Mem w p g s) {hd ln n : Int} (hs : s.xs.length ≤ 8388608) (h : ¬ newB s hd ln n) :
    Calls Tryz.prog 73 #[.pointer (some ⟨p, 0, none⟩), .int .i64 hd, .int .i64 ln, .int .i64 n] w fun e w' => e = .returned (.tuple #[.pointer none, .int .i64 1]) ∧ w = w' := by
  have hm := Lib.hid m
  clear m
  by_cases h0 : 1 ≤ n
  rotate_left
  · go_enter Tryz.func73, Tryz.ntmps73
    go_wp2_with fail
    go_ret2
    exact ⟨rfl, rfl⟩
  by_cases h1 : n ≤ 4096
  rotate_left
  · go_enter Tryz.func73, Tryz.ntmps73
    go_wp2_with fail
    go_ret2
    exact ⟨rfl, rfl⟩
  by_cases h2 : s.has hd
  rotate_left
  · have e2 := Lib.hid (decide_eq_false h2)
    go_enter Tryz.func73, Tryz.ntmps73
    go_wp2_with (go_at_call 116; (with_reducible refine (isCell_to hm.out e2.out).mono ?_); rintro e w1 ⟨rfl, rfl⟩)
    go_ret2
    exact ⟨rfl, rfl⟩
  have e2 := Lib.hid (decide_eq_true h2)
  by_cases h3 : s.has ln
  rotate_left
  · have e3 := Lib.hid (decide_eq_false h3)
    go_enter Tryz.func73, Tryz.ntmps73
    go_wp2_with (first
      | (go_at_call 116; (with_reducible refine (isCell_to hm.out e2.out).mono ?_); rintro e w1 ⟨rfl, rfl⟩)
      | (go_at_call 116; (with_reducible refine (isCell_to hm.out e3.out).mono ?_); rintro e w1 ⟨rfl, rfl⟩))
    go_ret2
    exact ⟨rfl, rfl⟩
  have e3 := Lib.hid (decide_eq_true h3)
  have l0 := h3.1
  have l1 := h3.2
  have a1 : wrap64 (ln + n) = ln + n := wrap64_in (by omega) (by omega)
  have a2 : wrap64 (ln + n - 1) = ln + n - 1 := wrap64_in (by omega) (by omega)
  by_cases h4 : s.has (ln + n - 1)
  rotate_left
  · have e4 := Lib.hid (decide_eq_false h4)
    clear h2 h3 h4 h
    go_enter Tryz.func73, Tryz.ntmps73
    go_wp2_with (first
      | (go_at_call 116; (with_reducible refine (isCell_to hm.out e2.out).mono ?_); rintro e w1 ⟨rfl, rfl⟩)
      | (go_at_call 116; (with_reducible refine (isCell_to hm.out e3.out).mono ?_); rintro e w1 ⟨rfl, rfl⟩)
      | (go_at_call 116; (with_reducible refine (isCell_to hm.out e4.out).mono ?_); rintro e w1 ⟨rfl, rfl⟩))
    go_ret2
    exact ⟨rfl, rfl⟩
  have e4 := Lib.hid (decide_eq_true h4)
  have h5 : ln ≤ hd ∧ hd ≤ ln + n - 1 := by
    by_cases c : ln ≤ hd ∧ hd ≤ ln + n - 1
    · exact c
    · exact absurd ⟨h0, h1, h2, h3, h4, c⟩ h
  obtain ⟨h5, h6⟩ := h5
  clear h2 h3 h4 h
  go_enter Tryz.func73, Tryz.ntmps73
  go_wp2_with (first
    | (go_at_call 116; (with_reducible refine (isCell_to hm.out e2.out).mono ?_); rintro e w1 ⟨rfl, rfl⟩)
    | (go_at_call 116; (with_reducible refine (isCell_to hm.out e3.out).mono ?_); rintro e w1 ⟨rfl, rfl⟩)
    | (go_at_call 116; (with_reducible refine (isCell_to hm.out e4.out).mono ?_); rintro e w1 ⟨rfl, rfl⟩))
  go_ret2
  exact ⟨rfl, rfl⟩
set_option maxHeartbeats 1000000 in
theorem snew_yes (m : Mem w p g s) {hd ln n : Int} (hs : s.xs.length ≤ 8388608) (h : newB s hd ln n) :
    Calls Tryz.prog 73 #[.pointer (some ⟨p, 0, none⟩), .int .i64 hd, .int .i64 ln, .int .i64 n] w fun e w' => e = .returned (.tuple #[.pointer (some ⟨w.heap.size, 0, none⟩), .int .i64 0]) ∧ Up w w' ∧ Whole w' w.heap.size 109 #[.pointer (some ⟨p, 0, none⟩), .int .i64 hd, .int .i64 ln, .int .i64 n] := by
  have hm := Lib.hid m
  clear m
  obtain ⟨h0, h1, h2, h3, h4, h5⟩ := h
  have e2 := Lib.hid (decide_eq_true h2)
  have e3 := Lib.hid (decide_eq_true h3)
  have e4 := Lib.hid (decide_eq_true h4)
  have l0 := h3.1
  have l1 := h3.2
  have a1 : wrap64 (ln + n) = ln + n := wrap64_in (by omega) (by omega)
  have a2 : wrap64 (ln + n - 1) = ln + n - 1 := wrap64_in (by omega) (by omega)
  clear h2 h3 h4
  by_cases h6 : ln ≤ hd
  · have h7 : ¬ hd ≤ ln + n - 1 := fun c => h5 ⟨h6, c⟩
    clear h5
    go_enter Tryz.func73, Tryz.ntmps73
    go_wp2_with (first
      | (go_at_call 116; (with_reducible refine (isCell_to hm.out e2.out).mono ?_); rintro e w1 ⟨rfl, rfl⟩)
      | (go_at_call 116; (with_reducible refine (isCell_to hm.out e3.out).mono ?_); rintro e w1 ⟨rfl, rfl⟩)
      | (go_at_call 116; (with_reducible refine (isCell_to hm.out e4.out).mono ?_); rintro e w1 ⟨rfl, rfl⟩))
    go_ret2
    exact ⟨rfl, Up.alloc _ _, Whole.new _ _ _⟩
  · clear h5
    go_enter Tryz.func73, Tryz.ntmps73
    go_wp2_with (first
      | (go_at_call 116; (with_reducible refine (isCell_to hm.out e2.out).mono ?_); rintro e w1 ⟨rfl, rfl⟩)
      | (go_at_call 116; (with_reducible refine (isCell_to hm.out e3.out).mono ?_); rintro e w1 ⟨rfl, rfl⟩)
      | (go_at_call 116; (with_reducible refine (isCell_to hm.out e4.out).mono ?_); rintro e w1 ⟨rfl, rfl⟩))
    go_ret2
    exact ⟨rfl, Up.alloc _ _, Whole.new _ _ _⟩
end
end Go.Proofs.YtkopplnjomkleaaGreat

/-
  Slices of ints: one that is read (Rd), one that is the whole of a block of its own (Ints); a set of ints in a map; slices.Clone; areItems.
-/
namespace Go.Proofs.YtkopplnjomkleaaGreat
open Go.RowKit
open Go.Maps
set_option maxRecDepth 100000

def I (l : List Nat) : List Int := l.map (fun x : Nat => (x : Int))
theorem I_len (l : List Nat) : (I l).length = l.length := by simp [I]
theorem I_get {l : List Nat} {j : Nat} (h : j < l.length) : (I l).getD j 0 = (l.getD j 0 : Nat) := by simp [I, List.getD, h]
/-! ### A set of ints, in a map of the call's own -/
def SetAt (w : World) (b k : Nat) (xs : List Int) : Prop :=
  ∃ D : DataW Unit, w.ownsMap Tryz.prog 3 (plainElem Tryz.prog 4) b k D ∧ ∀ i : Int, D.atKey (.int .i64 i) (.lit (.bool false)) = .lit (.bool (decide (i ∈ xs)))
theorem keyLaw : Keyed Tryz.prog 3 := int_keyed Tryz.underlying3
theorem zeroB (w : World) : (zeroValue 4).run Tryz.prog w = .ok (.bool false) w := by kernel_rfl
theorem plain_bool_inv {v : Value} {d : DataW Unit} {ps : List MemPlace} {x : Bool} (h : plainElem Tryz.prog 4 v = some (d, ps)) (hd : d = .lit (.bool x)) : v = .bool x := by
  unfold plainElem at h
  rw [Tryz.underlying4] at h
  cases v <;> simp at h
  rw [← h.1] at hd
  simpa using hd
theorem SetAt.made (w : World) : SetAt (w.alloc (.map #[] 0)) w.heap.size 0 [] :=
  ⟨.map [], World.ownsMap_made _ _ _ _, fun i => by simp [DataW.atKey]⟩
theorem SetAt.look {w : World} {b k : Nat} {xs : List Int} (h : SetAt w b k xs) {x : Int} (hw : (Lit.int .i64 x).wf = true) {c : Bool} (hc : decide (x ∈ xs) = c) :
    (Instr.lookup 201 (.map (some b)) (.int .i64 x) false).run Tryz.prog w = .ok (.bool c) w := by
  obtain ⟨D, ho, ha⟩ := h
  obtain ⟨v, ps, hrun, hv⟩ := ho.lookup keyLaw Tryz.underlying201 (zeroB w) (plainElem_bool Tryz.underlying4 false) (keyOf_int_mk Tryz.underlying3 hw)
  rw [hrun, plain_bool_inv hv (ha x), hc]
theorem SetAt.put {w : World} {b k : Nat} {xs : List Int} (h : SetAt w b k xs) {x : Int} (hw : (Lit.int .i64 x).wf = true) (hk : k < maxLen) :
    ∃ w', (Instr.mapUpdate 201 (.map (some b)) (.int .i64 x) (.bool true)).run Tryz.prog w = .ok () w' ∧ SetAt w' b (k + 1) (xs ++ [x]) ∧ w.grownBy w' (some b) := by
  obtain ⟨D, ho, ha⟩ := h
  obtain ⟨w', hrun, h1, h2⟩ := ho.store keyLaw Tryz.underlying201 hk (keyOf_int_mk Tryz.underlying3 hw) (plainElem_bool Tryz.underlying4 true)
  refine ⟨w', hrun, ⟨_, h1, fun i => ?_⟩, h2.grown⟩
  by_cases e : i = x
  · subst e; rw [atKey_put_same ho.isMap (by simp [WideAt.IsKeyLit])]; simp
  · rw [atKey_put_other (by simpa using e), ha i]
    simp [e]
theorem SetAt.lt {w : World} {b k : Nat} {xs : List Int} (h : SetAt w b k xs) : b < w.heap.size := by
  obtain ⟨D, ho, _⟩ := h; exact ho.lt
end Go.Proofs.YtkopplnjomkleaaGreat

/-
  The program's supply of a worker (PSu), whatever its object's row is: a stash, a limbo, all its blocks among F; what the stash's and the limbo's calls leave of it.
-/
namespace Go.Proofs.YtkopplnjomkleaaGreat
open Go.RowKit
set_option maxRecDepth 100000
set_option linter.unusedSimpArgs false
structure PSuV (w : World) (b : Nat) (rw_ : Array Value) (qs ql : Nat) (F : List Nat) (m : Int) (st : List Int) (R : Lb) (Fs Fl : List Nat) : Prop where
  obj : Whole w b 115 rw_
  sta : Sta 167 w qs Fs m st
  lim : Lim w ql Fl R
  sF : ∀ x ∈ Fs, x ∈ F
  lF : ∀ x ∈ Fl, x ∈ F
  dis : ∀ x ∈ Fs, x ∉ Fl
  bs : b ∉ Fs
  bl : b ∉ Fl
  bF : b ∈ F
  lt : ∀ x ∈ F, x < w.heap.size
/-- The program's supply lies at b; its stash has at most m ahead of Over, the items st; its limbo is R; all its blocks are among F. -/
def PSu (w : World) (b : Nat) (rw_ : Array Value) (qs ql : Nat) (F : List Nat) (m : Int) (st : List Int) (R : Lb) : Prop := ∃ Fs Fl, PSuV w b rw_ qs ql F m st R Fs Fl
section
variable {w w1 w' : World} {b qs ql : Nat} {rw_ : Array Value} {F Fs Fl : List Nat} {m now tag : Int} {st st' xs : List Int} {R R' : Lb} {o v : Value}
theorem PSuV.up (E : PSuV w b rw_ qs ql F m st R Fs Fl) (u : Up w w') : PSuV w' b rw_ qs ql F m st R Fs Fl := ⟨E.obj.up u, E.sta.up u, E.lim.up u, E.sF, E.lF, E.dis, E.bs, E.bl, E.bF, fun x hx => Nat.lt_of_lt_of_le (E.lt x hx) u.size⟩
theorem PSuV.else (E : PSuV w b rw_ qs ql F m st R Fs Fl) {l : List Nat} (u : Else l w w') (h : ∀ x ∈ F, x ∉ l) : PSuV w' b rw_ qs ql F m st R Fs Fl :=
  ⟨u.whole E.obj (h b E.bF), E.sta.else u (fun x hx => h x (E.sF x hx)), E.lim.else u (fun x hx => h x (E.lF x hx)), E.sF, E.lF, E.dis, E.bs, E.bl, E.bF, fun x hx => Nat.lt_of_lt_of_le (E.lt x hx) u.size⟩
theorem PSu.up (E : PSu w b rw_ qs ql F m st R) (u : Up w w') : PSu w' b rw_ qs ql F m st R := by obtain ⟨Fs, Fl, E⟩ := E; exact ⟨Fs, Fl, E.up u⟩
theorem PSu.else (E : PSu w b rw_ qs ql F m st R) {l : List Nat} (u : Else l w w') (h : ∀ x ∈ F, x ∉ l) : PSu w' b rw_ qs ql F m st R := by obtain ⟨Fs, Fl, E⟩ := E; exact ⟨Fs, Fl, E.else u h⟩
theorem PSu.obj (E : PSu w b rw_ qs ql F m st R) : Whole w b 115 rw_ := by obtain ⟨_, _, E⟩ := E; exact E.obj
theorem PSu.lt (E : PSu w b rw_ qs ql F m st R) : ∀ x ∈ F, x < w.heap.size := by obtain ⟨_, _, E⟩ := E; exact E.lt
theorem PSu.bF (E : PSu w b rw_ qs ql F m st R) : b ∈ F := by obtain ⟨_, _, E⟩ := E; exact E.bF
/-- The stash is turned. -/
theorem PSuV.sgave (E : PSuV w b rw_ qs ql F m st R Fs Fl) (G : SGave 167 w w' qs Fs m st') : Turned w w' F fun F' => PSu w' b rw_ qs ql F' m st' R := by
  obtain ⟨Fs', S', N, X⟩ := G
  have d' := next_apart N E.dis (fun x hx => E.lt x (E.lF x hx))
  have b' : b ∉ Fs' := fun h => by
    rcases N b h with h | h
    · exact E.bs h
    · have := E.lt b E.bF; omega
  refine ⟨b :: (Fs' ++ Fl), ⟨Fs', Fl, X.whole E.obj E.bs, S', E.lim.else X (fun x hx h => E.dis x h hx), by simp; intro x hx; simp [hx], by simp; intro x hx; simp [hx], d', b', E.bl, by simp, ?_⟩, ?_, X.more E.sF⟩
  · intro x hx
    simp at hx
    rcases hx with rfl | hx | hx
    · exact Nat.lt_of_lt_of_le (E.lt _ E.bF) X.size
    · exact S'.lt x hx
    · exact Nat.lt_of_lt_of_le (E.lt x (E.lF x hx)) X.size
  · intro x hx
    simp at hx
    rcases hx with rfl | hx | hx
    · exact .inl E.bF
    · exact (N x hx).imp (E.sF x) id
    · exact .inl (E.lF x hx)
/-- The stash is turned, and handed something out. -/
theorem PSuV.stook (E : PSuV w b rw_ qs ql F m st R Fs Fl) (T : STook 167 w w' qs Fs m st' o xs) : Turned w w' F fun F' => PSu w' b rw_ qs ql F' m st' R ∧ Rd w' o xs ∧ Away o F' ∧ (∀ x, o.ownBlock = some x → x ∈ F ∨ w.heap.size ≤ x) := by
  obtain ⟨Fs', S', Ro, Ao, N, O, X⟩ := T
  have d' := next_apart N E.dis (fun x hx => E.lt x (E.lF x hx))
  have b' : b ∉ Fs' := fun h => by
    rcases N b h with h | h
    · exact E.bs h
    · have := E.lt b E.bF; omega
  refine ⟨b :: (Fs' ++ Fl), ⟨⟨Fs', Fl, X.whole E.obj E.bs, S', E.lim.else X (fun x hx h => E.dis x h hx), by simp; intro x hx; simp [hx], by simp; intro x hx; simp [hx], d', b', E.bl, by simp, ?_⟩, Ro, ?_, fun x hx => (O x hx).imp (E.sF x) id⟩, ?_, X.more E.sF⟩
  · intro x hx
    simp at hx
    rcases hx with rfl | hx | hx
    · exact Nat.lt_of_lt_of_le (E.lt _ E.bF) X.size
    · exact S'.lt x hx
    · exact Nat.lt_of_lt_of_le (E.lt x (E.lF x hx)) X.size
  · intro x hx e
    simp at hx
    rcases hx with rfl | hx | hx
    · rcases O _ e with h | h
      · exact E.bs h
      · have := E.lt _ E.bF; omega
    · exact Ao x hx e
    · rcases O _ e with h | h
      · exact E.dis x h hx
      · have := E.lt x (E.lF x hx); omega
  · intro x hx
    simp at hx
    rcases hx with rfl | hx | hx
    · exact .inl E.bF
    · exact (N x hx).imp (E.sF x) id
    · exact .inl (E.lF x hx)
/-- The limbo is turned, and handed something out. -/
theorem PSuV.ltook (E : PSuV w b rw_ qs ql F m st R Fs Fl) (T : Took w w' ql Fl R' xs o) : Turned w w' F fun F' => PSu w' b rw_ qs ql F' m st R' ∧ Ints w' o xs ∧ Away o F' ∧ (∀ x, o.ownBlock = some x → x ∈ F ∨ w.heap.size ≤ x) := by
  obtain ⟨Fl', L', Jo, Ao, N, O, X⟩ := T
  have d' := next_apart N (fun x hx h => E.dis x h hx) (fun x hx => E.lt x (E.sF x hx))
  have b' : b ∉ Fl' := fun h => by
    rcases N b h with h | h
    · exact E.bl h
    · have := E.lt b E.bF; omega
  refine ⟨b :: (Fs ++ Fl'), ⟨⟨Fs, Fl', X.whole E.obj E.bl, E.sta.else X (fun x hx h => E.dis x hx h), L', by simp; intro x hx; simp [hx], by simp; intro x hx; simp [hx], fun x hx h => d' x h hx, E.bs, b', by simp, ?_⟩, Jo, ?_, fun x hx => (O x hx).imp (E.lF x) id⟩, ?_, X.more E.lF⟩
  · intro x hx
    simp at hx
    rcases hx with rfl | hx | hx
    · exact Nat.lt_of_lt_of_le (E.lt _ E.bF) X.size
    · exact Nat.lt_of_lt_of_le (E.lt x (E.sF x hx)) X.size
    · exact L'.lt x hx
  · intro x hx e
    simp at hx
    rcases hx with rfl | hx | hx
    · rcases O _ e with h | h
      · exact E.bl h
      · have := E.lt _ E.bF; omega
    · rcases O _ e with h | h
      · exact E.dis x hx h
      · have := E.lt x (E.sF x hx); omega
    · exact Ao x hx e
  · intro x hx
    simp at hx
    rcases hx with rfl | hx | hx
    · exact .inl E.bF
    · exact .inl (E.sF x hx)
    · exact (N x hx).imp (E.lF x) id
/-- A Give to the stash. -/
theorem psuGive (E : PSu w b rw_ qs ql F m st R) (Ro : Rd w o xs) (hl : st.length + xs.length ≤ 8192) :
    Calls Tryz.prog 59 #[.pointer (some ⟨qs, 0, none⟩), o] w fun e w' => e = .returned (.tuple #[]) ∧ Turned w w' F fun F' => PSu w' b rw_ qs ql F' m (st ++ xs) R := by
  obtain ⟨Fs, Fl, E⟩ := E
  exact (sgive_any E.sta Ro hl).mono fun e w' ⟨he, G⟩ => ⟨he, E.sgave G⟩
theorem psuReady (E : PSu w b rw_ qs ql F m st R) (now : Int) (hs : R.size ≤ 8192) :
    Calls Tryz.prog 101 #[.pointer (some ⟨ql, 0, none⟩), .int .i64 now] w fun e w' => ∃ o, e = .returned o ∧ Turned w w' F fun F' => PSu w' b rw_ qs ql F' m st (R.rest now) ∧ Ints w' o (R.outs now) ∧ Away o F' ∧ (∀ x, o.ownBlock = some x → x ∈ F ∨ w.heap.size ≤ x) := by
  obtain ⟨Fs, Fl, E⟩ := E
  exact (lready_any E.lim now hs).mono fun e w' ⟨o, he, T⟩ => ⟨o, he, E.ltook T⟩
theorem psuRetire (E : PSu w b rw_ qs ql F m st R) (Rv : Rd w v xs) (Av : Away v F) (h0 : xs ≠ []) (h1 : R.last ≤ tag) (h2 : tag ≤ 4611686018427387903) {kk : Nat} (hk : tag % 3 = kk) (hs : R.size + xs.length ≤ 8192) :
    Calls Tryz.prog 98 #[.pointer (some ⟨ql, 0, none⟩), .int .i64 tag, v] w fun e w' => ∃ o, e = .returned (.tuple #[o, .int .i64 0]) ∧ Turned w w' F fun F' => PSu w' b rw_ qs ql F' m st (R.retire kk tag xs) ∧ Ints w' o (R.taken kk tag) ∧ Away o F' ∧ (∀ x, o.ownBlock = some x → x ∈ F ∨ w.heap.size ≤ x) := by
  obtain ⟨Fs, Fl, E⟩ := E
  exact (lretire_yes E.lim Rv (fun x hx => Av x (E.lF x hx)) h0 h1 h2 hk hs).mono fun e w' ⟨o, he, T⟩ => ⟨o, he, E.ltook T⟩
theorem psuRetire_no (E : PSu w b rw_ qs ql F m st R) (Rv : Rd w v xs) (h : ¬ (xs ≠ [] ∧ R.last ≤ tag ∧ tag ≤ 4611686018427387903)) :
    Calls Tryz.prog 98 #[.pointer (some ⟨ql, 0, none⟩), .int .i64 tag, v] w fun e w' => e = .returned (.tuple #[.slice none 0 0, .int .i64 1]) ∧ w = w' := by
  obtain ⟨Fs, Fl, E⟩ := E
  exact lretire_no E.lim Rv h
theorem psuTake_no (E : PSu w b rw_ qs ql F m [] R) : Calls Tryz.prog 111 #[.pointer (some ⟨qs, 0, none⟩)] w fun e w' => e = .returned (.tuple #[.int .i64 0, .bool false]) ∧ w = w' := by
  obtain ⟨Fs, Fl, E⟩ := E
  exact stake_none E.sta
theorem psuTake {y : Int} (E : PSu w b rw_ qs ql F m (st ++ [y]) R) : Calls Tryz.prog 111 #[.pointer (some ⟨qs, 0, none⟩)] w fun e w' => e = .returned (.tuple #[.int .i64 y, .bool true]) ∧ Turned w w' F fun F' => PSu w' b rw_ qs ql F' m st R := by
  obtain ⟨Fs, Fl, E⟩ := E
  exact (stake_some E.sta).mono fun e w' ⟨he, G⟩ => ⟨he, E.sgave G⟩
theorem psuLen (E : PSu w b rw_ qs ql F m st R) (hs : R.size ≤ 8000) {d : Nat} (hd : R.size = d) : Calls Tryz.prog 66 #[.pointer (some ⟨ql, 0, none⟩)] w fun e w' => e = .returned (.int .i64 (d : Nat)) ∧ Up w w' := by
  obtain ⟨Fs, Fl, E⟩ := E
  exact hd ▸ llen_any E.lim (by omega)
theorem psuList (E : PSu w b rw_ qs ql F m st R) (hl : st.length ≤ 8192) : Calls Tryz.prog 58 #[.pointer (some ⟨qs, 0, none⟩)] w fun e w' => ∃ o, e = .returned o ∧ Ints w' o st ∧ Fresh w o ∧ Up w w' := by
  obtain ⟨Fs, Fl, E⟩ := E
  exact slist_any E.sta hl
theorem psuOver {T : List Nat} {K : Nat} (E : PSu w b rw_ qs ql F m (I T) R) (hK : ((T.length : Int) - m).toNat = K) (hm : 0 ≤ m ∧ m ≤ 64) (hl : T.length ≤ 8000) :
    Calls Tryz.prog 61 #[.pointer (some ⟨qs, 0, none⟩)] w fun e w' => ∃ A N cp, e = .returned (.slice A N cp) ∧ Turned w w' F fun F' => PSu w' b rw_ qs ql F' m (I (T.drop K)) R ∧ Rd w' (.slice A N cp) (I (T.take K)) ∧ Away (.slice A N cp) F' ∧ (∀ x, (Value.slice A N cp).ownBlock = some x → x ∈ F ∨ w.heap.size ≤ x) := by
  obtain ⟨Fs, Fl, E⟩ := E
  refine (sover_all E.sta (K := K) (by rw [I_len]; exact hK) hm (by rw [I_len]; exact hl) (show (I T).drop K = I (T.drop K) by simp [I, List.map_drop]) (show (I T).take K = I (T.take K) by simp [I, List.map_take])).mono ?_
  rintro e w' ⟨A, cp, rfl, S⟩
  exact ⟨A, K, cp, rfl, E.stook S⟩
theorem psuAll (E : PSu w b rw_ qs ql F m st R) :
    Calls Tryz.prog 62 #[.pointer (some ⟨qs, 0, none⟩)] w fun e w' => ∃ A N cp, e = .returned (.slice A N cp) ∧ Turned w w' F fun F' => PSu w' b rw_ qs ql F' m [] R ∧ Rd w' (.slice A N cp) st ∧ Away (.slice A N cp) F' ∧ (∀ x, (Value.slice A N cp).ownBlock = some x → x ∈ F ∨ w.heap.size ≤ x) := by
  obtain ⟨Fs, Fl, E⟩ := E
  refine (sall_in E.sta).mono ?_
  rintro e w' ⟨o, rfl, S, J⟩
  obtain ⟨A, N, cp, rfl⟩ := shapeI J
  exact ⟨A, N, cp, rfl, E.stook S⟩
end
end Go.Proofs.YtkopplnjomkleaaGreat

/-
  Package stack: areItems; slices.Clone of ints.
-/
namespace Go.Proofs.YtkopplnjomkleaaGreat
open Go.RowKit
set_option maxRecDepth 100000

/-- Items, none twice. -/
def Good (n : Nat) (xs : List Int) : Prop := (∀ x ∈ xs, 0 ≤ x ∧ x < n) ∧ xs.Nodup
instance (n : Nat) (xs : List Int) : Decidable (Good n xs) := inferInstanceAs (Decidable (_ ∧ _))
theorem good_nil (n : Nat) : Good n [] := ⟨by simp, List.nodup_nil⟩
theorem good_step {n k : Nat} {xs : List Int} (h : Good n (xs.take k)) (hk : k < xs.length) {x : Int} (hx : xs.getD k 0 = x) (h0 : 0 ≤ x) (h1 : x < n) (h2 : x ∉ xs.take k) : Good n (xs.take (k + 1)) := by
  rw [take_get hk, hx]
  refine ⟨fun y hy => ?_, ?_⟩
  · rcases List.mem_append.1 hy with hy | hy
    · exact h.1 y hy
    · simp at hy; subst hy; exact ⟨h0, h1⟩
  · rw [List.nodup_append]
    refine ⟨h.2, by simp, fun a ha b hb => ?_⟩
    simp at hb; subst hb
    intro e; subst e; exact h2 ha
theorem not_good {n k : Nat} {xs : List Int} (hk : k < xs.length) {x : Int} (hx : xs.getD k 0 = x) (h : x < 0 ∨ (n : Int) ≤ x ∨ x ∈ xs.take k) : ¬ Good n xs := by
  intro ⟨g1, g2⟩
  have hm := g1 _ (get_mem hk)
  rw [hx] at hm
  rcases h with h | h | h
  · omega
  · omega
  · have e : xs = xs.take k ++ xs.getD k 0 :: xs.drop (k + 1) := by
      simp [List.getD, hk]
    rw [e, List.nodup_append] at g2
    exact g2.2.2 x h _ (by simp) hx.symm
theorem wf_small {x : Int} (h0 : 0 ≤ x) (h1 : x < 4096) : (Lit.int .i64 x).wf = true := WalkArith.wf_i64 (by omega)

section
variable {w : World} {p g q hd ln n : Nat} {s : St}
set_option maxHeartbeats 2000000 in
theorem areItems_any (E : Env w p g q hd ln n s) {v : Value} {xs : List Int} (R : Rd w v xs) :
    Calls Tryz.prog 134 #[.pointer (some ⟨q, 0, none⟩), v] w fun e w' => e = .returned (.bool (decide (Good n xs))) ∧ Up w w' := by
  obtain ⟨A, cap, rfl⟩ := R.slice
  have hm := R.len
  unfold maxLen at hm
  have HR := Lib.hid R
  have c3 := Lib.hid E.cells.2.2.2
  have n1 := E.n1
  have hmm := @run_makeMap Tryz.prog
  clear R E
  go_enter Tryz.func134, Tryz.ntmps134
  go_wp2_with fail
  go_loopw [11] (fun i wr => ∃ k : Nat, k ≤ xs.length ∧ i = .int .i64 k ∧ Good n (xs.take k) ∧ SetAt wr w.heap.size k (xs.take k) ∧ Up w wr) (fun i _ => xs.length - (intOf i).toNat)
  case atStart => exact ⟨0, Nat.zero_le _, rfl, good_nil _, SetAt.made w, Up.alloc _ _⟩
  case round =>
    obtain ⟨k, hk, rfl, hg, hs, hu⟩ := hrel
    have HG := Lib.hid hg
    have HS := Lib.hid hs
    have HU := Lib.hid hu
    clear hg hs hu
    by_cases hlt : k < xs.length
    · obtain ⟨b, off, rfl, hc⟩ := HR.out.cell hlt
      have c4 := HU.out.kept c3.out
      replace hc := HU.out.kept hc
      obtain ⟨x, hx⟩ : ∃ x, xs.getD k 0 = x := ⟨_, rfl⟩
      rw [hx] at hc
      have HX := Lib.hid hx
      clear hx
      have i0 : (0 : Int) ≤ (k : Int) := Int.natCast_nonneg _
      have i1 : (k : Int) < (xs.length : Int) := by omega
      by_cases x0 : x < 0
      · go_wp2_with fail
        go_ret
        exact ⟨ret_bool (decide_eq_false (not_good hlt HX.out (.inl x0))).symm, HU.out⟩
      by_cases x1 : (n : Int) ≤ x
      · go_wp2_with fail
        go_ret
        exact ⟨ret_bool (decide_eq_false (not_good hlt HX.out (.inr (.inl x1)))).symm, HU.out⟩
      have hw := wf_small (x := x) (by omega) (by omega)
      by_cases x2 : x ∈ xs.take k
      · have hl := HS.out.look hw (decide_eq_true x2)
        have X2 := Lib.hid x2
        clear x2 hw
        go_wp2_with fail
        go_ret
        exact ⟨ret_bool (decide_eq_false (not_good hlt HX.out (.inr (.inr X2.out)))).symm, HU.out⟩
      · have hl := HS.out.look hw (decide_eq_false x2)
        obtain ⟨w2, hrun, hs2, hgr⟩ := HS.out.put hw (by unfold maxLen; omega)
        have X2 := Lib.hid x2
        have HS2 := Lib.hid hs2
        have HG2 := Lib.hid hgr
        clear x2 hw hs2 hgr
        go_wp2_with fail
        go_roundw
        case rel =>
          refine ⟨k + 1, by omega, by go_num, good_step HG.out hlt HX.out (by omega) (by omega) X2.out, ?_, HU.out.grown HG2.out (fun j hj => by cases hj; exact Nat.le_refl _)⟩
          rw [take_get hlt, HX.out]; exact HS2.out
        case measure => simp [intOf]; omega
    · have e : xs.take k = xs := List.take_of_length_le (by omega)
      have i1 : ¬ (k : Int) < (xs.length : Int) := by omega
      go_wp2_with fail
      go_ret
      exact ⟨ret_bool (decide_eq_true (e ▸ HG.out)).symm, HU.out⟩
theorem areItems_to (E : Env w p g q hd ln n s) {v : Value} {xs : List Int} (R : Rd w v xs) {b : Bool} (h : decide (Good n xs) = b) :
    Calls Tryz.prog 134 #[.pointer (some ⟨q, 0, none⟩), v] w fun e w' => e = .returned (.bool b) ∧ Up w w' := h ▸ areItems_any E R
end

end Go.Proofs.YtkopplnjomkleaaGreat
