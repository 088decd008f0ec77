/-
  Texts beneath ChainPlays, part 4: Stack0, Ints, Stack1.
-/
import Derived.Test.YteofgnifpkcgmaaPart3
import Derived.Deep.RegionHeld3
import Derived.Deep.DrawnRows
import Derived.StillTailTactics
import Derived.Deep.DeepCutAuto
import Derived.Maps.OwnSet
import Derived.Lib.SliceRun
/-
  Package stack: the stack over its cells (Env), what a word tells (topN, belowN, nextW), the small functions, New.
-/
namespace Go.Proofs.Yteofgnifpkcgmaa
open Go.RowKit
open W64
set_option maxRecDepth 100000

/-- The item that a head's word tells, and a link's; -1: none. -/
def topN (n x : Int) : Int := if n ≤ x % 4294967296 - 1 then -1 else x % 4294967296 - 1
def belowN (n x : Int) : Int := if n < x then -1 else x - 1
/-- The head's word behind an exchange. -/
def nextW (x i : Int) : Int := headV i (nextT (x / 4294967296))
theorem nextW_in (x i : Int) : 0 ≤ nextW x i ∧ nextW x i < 18446744073709551616 := headV_in _ _
/-- A stack lies at q, over the memory at p, whose cells lie at g. -/
structure Env (w : World) (p g q hd ln n : Nat) (s : St) : Prop where
  mem : Mem w p g s
  stk : Whole w q 96 #[.pointer (some ⟨p, 0, none⟩), .int .i64 hd, .int .i64 ln, .int .i64 n]
  ok : s.Ok
  np : q ≠ p
  ng : q ≠ g
  n0 : 1 ≤ n
  n1 : n ≤ 4096
  hh : hd < s.xs.length
  hl : ln + n ≤ s.xs.length
  top : s.xs.length ≤ 8388608
  far : hd < ln ∨ ln + n ≤ hd
section
variable {w w' : World} {p g q hd ln n : Nat} {s : St}
theorem Env.up (E : Env w p g q hd ln n s) (u : Up w w') : Env w' p g q hd ln n s := ⟨E.mem.up u, E.stk.up u, E.ok, E.np, E.ng, E.n0, E.n1, E.hh, E.hl, E.top, E.far⟩
theorem Env.else (E : Env w p g q hd ln n s) {l : List Nat} (u : Else l w w') (h1 : p ∉ l) (h2 : g ∉ l) (h3 : q ∉ l) : Env w' p g q hd ln n s :=
  ⟨E.mem.else u h1 h2, u.whole E.stk h3, E.ok, E.np, E.ng, E.n0, E.n1, E.hh, E.hl, E.top, E.far⟩
/-- Behind a call that turns the memory. -/
theorem Env.turn (E : Env w p g q hd ln n s) {s' : St} (m : Mem w' p g s') (u : Else [p, g] w w') (ok : s'.Ok) (hl : s'.xs.length = s.xs.length) : Env w' p g q hd ln n s' :=
  ⟨m, u.whole E.stk (by simp [E.np, E.ng]), ok, E.np, E.ng, E.n0, E.n1, hl ▸ E.hh, hl ▸ E.hl, hl ▸ E.top, E.far⟩
theorem Env.cells (E : Env w p g q hd ln n s) : w.cell? ⟨q, 0, none⟩ = some (.pointer (some ⟨p, 0, none⟩)) ∧ w.cell? ⟨q, 1, none⟩ = some (.int .i64 hd) ∧ w.cell? ⟨q, 2, none⟩ = some (.int .i64 ln) ∧ w.cell? ⟨q, 3, none⟩ = some (.int .i64 n) :=
  ⟨E.stk.cell rfl, E.stk.cell rfl, E.stk.cell rfl, E.stk.cell rfl⟩
theorem Env.hasH (E : Env w p g q hd ln n s) : s.has hd := ⟨by omega, by have := E.hh; omega⟩
theorem Env.hasL (E : Env w p g q hd ln n s) {i : Int} (h0 : 0 ≤ i) (h1 : i < n) : s.has (ln + i) := ⟨by omega, by have := E.hl; omega⟩
set_option maxHeartbeats 400000 in
theorem asLink_any (x : Int) (h0 : -1 ≤ x) (h1 : x < 9223372036854775807) (w : World) :
    Calls Try.prog 75 #[.int .i64 x] w fun e w' => e = .returned (.int .u64 (x + 1)) ∧ w = w' := by
  have e1 : IntKind.i64.wrap (x + 1) = x + 1 := IntWalk.i64_in _ (by omega)
  have e2 : IntKind.u64.wrap (x + 1) = x + 1 := IntWalk.u64_in _ (by omega)
  go_enter Try.func75, Try.ntmps75
  go_wp2
  go_ret
  refine ⟨ret_int ?_, rfl⟩
  first | rfl | (rw [wrap64_in (by omega) (by omega)]; exact e2)
theorem asLink_to {x y : Int} (e : x + 1 = y) (h0 : -1 ≤ x) (h1 : x < 9223372036854775807) (w : World) :
    Calls Try.prog 75 #[.int .i64 x] w fun e w' => e = .returned (.int .u64 y) ∧ w = w' := e ▸ asLink_any x h0 h1 w

theorem run_index (i t : Int) (w : World) : (Instr.field 111 (.agg #[.int .i64 i, .int .i64 t]) 0).run Try.prog w = .ok (.int .i64 i) w := by
  rfl
set_option maxHeartbeats 400000 in
theorem ofHead_in (E : Env w p g q hd ln n s) {x : Int} (h0 : 0 ≤ x) (h1 : x < 18446744073709551616) :
    Calls Try.prog 53 #[.pointer (some ⟨q, 0, none⟩), .int .u64 x] w fun e w' => e = .returned (.int .i64 (topN n x)) ∧ Up w w' := by
  have c3 := E.cells.2.2.2
  have hf := run_index
  by_cases h : (n : Int) ≤ x % 4294967296 - 1
  · have e : topN n x = -1 := by unfold topN; rw [if_pos h]
    rw [e]
    have c := Lib.hid c3
    go_enter Try.func53, Try.ntmps53
    go_wp2_with (go_at_call 69; refine (getHead_any x _ h0 h1).mono ?_; rintro e w1 ⟨rfl, U1⟩; have c4 := U1.kept c.out)
    go_ret
    exact ⟨rfl, U1⟩
  · have e : topN n x = x % 4294967296 - 1 := by unfold topN; rw [if_neg h]
    rw [e]
    have c := Lib.hid c3
    go_enter Try.func53, Try.ntmps53
    go_wp2_with (go_at_call 69; refine (getHead_any x _ h0 h1).mono ?_; rintro e w1 ⟨rfl, U1⟩; have c4 := U1.kept c.out)
    go_ret
    exact ⟨rfl, U1⟩
theorem ofHead_to (E : Env w p g q hd ln n s) {x y : Int} (h0 : 0 ≤ x) (h1 : x < 18446744073709551616) (e : topN n x = y) :
    Calls Try.prog 53 #[.pointer (some ⟨q, 0, none⟩), .int .u64 x] w fun e w' => e = .returned (.int .i64 y) ∧ Up w w' := e ▸ ofHead_in E h0 h1

set_option maxHeartbeats 400000 in
theorem ofLink_in (E : Env w p g q hd ln n s) {x : Int} (h0 : 0 ≤ x) (h1 : x < 18446744073709551616) :
    Calls Try.prog 54 #[.pointer (some ⟨q, 0, none⟩), .int .u64 x] w fun e w' => e = .returned (.int .i64 (belowN n x)) ∧ w = w' := by
  have c3 := E.cells.2.2.2
  have n1 := E.n1
  have e1 : IntKind.u64.wrap (n : Int) = n := IntWalk.u64_in _ (by omega)
  by_cases h : (n : Int) < x
  · have e : belowN n x = -1 := by unfold belowN; rw [if_pos h]
    rw [e]
    go_enter Try.func54, Try.ntmps54
    go_wp2
    go_ret
    exact ⟨rfl, rfl⟩
  · have e : belowN n x = x - 1 := by unfold belowN; rw [if_neg h]
    rw [e]
    have e2 : IntKind.i64.wrap x = x := IntWalk.i64_in _ (by omega)
    have e3 : wrap64 (x - 1) = x - 1 := wrap64_in (by omega) (by omega)
    go_enter Try.func54, Try.ntmps54
    go_wp2
    go_ret
    refine ⟨ret_int ?_, rfl⟩
    first | rfl | exact e3 | omega
theorem ofLink_to (E : Env w p g q hd ln n s) {x y : Int} (h0 : 0 ≤ x) (h1 : x < 18446744073709551616) (e : belowN n x = y) :
    Calls Try.prog 54 #[.pointer (some ⟨q, 0, none⟩), .int .u64 x] w fun e w' => e = .returned (.int .i64 y) ∧ w = w' := e ▸ ofLink_in E h0 h1

set_option maxHeartbeats 400000 in
theorem isCell_any (m : Mem w p g s) (i : Int) :
    Calls Try.prog 71 #[.pointer (some ⟨p, 0, none⟩), .int .i64 i] w fun e w' => e = .returned (.bool (decide (s.has i))) ∧ w = w' := by
  have hm := Lib.hid m
  clear m
  by_cases h0 : 0 ≤ i
  · by_cases h1 : i < s.xs.length
    · have e : decide (s.has i) = true := decide_eq_true ⟨h0, h1⟩
      rw [e]
      go_enter Try.func71, Try.ntmps71
      go_wp2_with (go_at_call 58; refine (len_any hm.out).mono ?_; rintro e w1 ⟨rfl, rfl⟩)
      go_ret
      exact ⟨rfl, rfl⟩
    · have e : decide (s.has i) = false := decide_eq_false fun h => h1 h.2
      rw [e]
      go_enter Try.func71, Try.ntmps71
      go_wp2_with (go_at_call 58; refine (len_any hm.out).mono ?_; rintro e w1 ⟨rfl, rfl⟩)
      go_ret
      exact ⟨ret_bool (decide_eq_false (by omega)), rfl⟩
  · have e : decide (s.has i) = false := decide_eq_false fun h => h0 h.1
    rw [e]
    go_enter Try.func71, Try.ntmps71
    go_wp2_with fail
    go_ret
    exact ⟨rfl, rfl⟩
theorem isCell_to (m : Mem w p g s) {i : Int} {b : Bool} (h : decide (s.has i) = b) :
    Calls Try.prog 71 #[.pointer (some ⟨p, 0, none⟩), .int .i64 i] w fun e w' => e = .returned (.bool b) ∧ w = w' := h ▸ isCell_any m i
/-- May there be a stack over these cells? -/
def newB (s : St) (hd ln n : Int) : Prop := 1 ≤ n ∧ n ≤ 4096 ∧ s.has hd ∧ s.has ln ∧ s.has (ln + n - 1) ∧ ¬ (ln ≤ hd ∧ hd ≤ ln + n - 1)
set_option maxHeartbeats 1000000 in
theorem snew_no (m : Mem w p g s) {hd ln n : Int} (hs : s.xs.length ≤ 8388608) (h : ¬ newB s hd ln n) :
    Calls Try.prog 59 #[.pointer (some ⟨p, 0, none⟩), .int .i64 hd, .int .i64 ln, .int .i64 n] w fun e w' => e = .returned (.tuple #[.pointer none, .int .i64 1]) ∧ w = w' := by
  have hm := Lib.hid m
  clear m
  by_cases h0 : 1 ≤ n
  rotate_left
  · go_enter Try.func59, Try.ntmps59
    go_wp2_with fail
    go_ret2
    exact ⟨rfl, rfl⟩
  by_cases h1 : n ≤ 4096
  rotate_left
  · go_enter Try.func59, Try.ntmps59
    go_wp2_with fail
    go_ret2
    exact ⟨rfl, rfl⟩
  by_cases h2 : s.has hd
  rotate_left
  · have e2 := Lib.hid (decide_eq_false h2)
    go_enter Try.func59, Try.ntmps59
    go_wp2_with (go_at_call 71; (with_reducible refine (isCell_to hm.out e2.out).mono ?_); rintro e w1 ⟨rfl, rfl⟩)
    go_ret2
    exact ⟨rfl, rfl⟩
  have e2 := Lib.hid (decide_eq_true h2)
  by_cases h3 : s.has ln
  rotate_left
  · have e3 := Lib.hid (decide_eq_false h3)
    go_enter Try.func59, Try.ntmps59
    go_wp2_with (first
      | (go_at_call 71; (with_reducible refine (isCell_to hm.out e2.out).mono ?_); rintro e w1 ⟨rfl, rfl⟩)
      | (go_at_call 71; (with_reducible refine (isCell_to hm.out e3.out).mono ?_); rintro e w1 ⟨rfl, rfl⟩))
    go_ret2
    exact ⟨rfl, rfl⟩
  have e3 := Lib.hid (decide_eq_true h3)
  have l0 := h3.1
  have l1 := h3.2
  have a1 : wrap64 (ln + n) = ln + n := wrap64_in (by omega) (by omega)
  have a2 : wrap64 (ln + n - 1) = ln + n - 1 := wrap64_in (by omega) (by omega)
  by_cases h4 : s.has (ln + n - 1)
  rotate_left
  · have e4 := Lib.hid (decide_eq_false h4)
    clear h2 h3 h4 h
    go_enter Try.func59, Try.ntmps59
    go_wp2_with (first
      | (go_at_call 71; (with_reducible refine (isCell_to hm.out e2.out).mono ?_); rintro e w1 ⟨rfl, rfl⟩)
      | (go_at_call 71; (with_reducible refine (isCell_to hm.out e3.out).mono ?_); rintro e w1 ⟨rfl, rfl⟩)
      | (go_at_call 71; (with_reducible refine (isCell_to hm.out e4.out).mono ?_); rintro e w1 ⟨rfl, rfl⟩))
    go_ret2
    exact ⟨rfl, rfl⟩
  have e4 := Lib.hid (decide_eq_true h4)
  have h5 : ln ≤ hd ∧ hd ≤ ln + n - 1 := by
    by_cases c : ln ≤ hd ∧ hd ≤ ln + n - 1
    · exact c
    · exact absurd ⟨h0, h1, h2, h3, h4, c⟩ h
  obtain ⟨h5, h6⟩ := h5
  clear h2 h3 h4 h
  go_enter Try.func59, Try.ntmps59
  go_wp2_with (first
    | (go_at_call 71; (with_reducible refine (isCell_to hm.out e2.out).mono ?_); rintro e w1 ⟨rfl, rfl⟩)
    | (go_at_call 71; (with_reducible refine (isCell_to hm.out e3.out).mono ?_); rintro e w1 ⟨rfl, rfl⟩)
    | (go_at_call 71; (with_reducible refine (isCell_to hm.out e4.out).mono ?_); rintro e w1 ⟨rfl, rfl⟩))
  go_ret2
  exact ⟨rfl, rfl⟩
set_option maxHeartbeats 1000000 in
theorem snew_yes (m : Mem w p g s) {hd ln n : Int} (hs : s.xs.length ≤ 8388608) (h : newB s hd ln n) :
    Calls Try.prog 59 #[.pointer (some ⟨p, 0, none⟩), .int .i64 hd, .int .i64 ln, .int .i64 n] w fun e w' => e = .returned (.tuple #[.pointer (some ⟨w.heap.size, 0, none⟩), .int .i64 0]) ∧ Up w w' ∧ Whole w' w.heap.size 96 #[.pointer (some ⟨p, 0, none⟩), .int .i64 hd, .int .i64 ln, .int .i64 n] := by
  have hm := Lib.hid m
  clear m
  obtain ⟨h0, h1, h2, h3, h4, h5⟩ := h
  have e2 := Lib.hid (decide_eq_true h2)
  have e3 := Lib.hid (decide_eq_true h3)
  have e4 := Lib.hid (decide_eq_true h4)
  have l0 := h3.1
  have l1 := h3.2
  have a1 : wrap64 (ln + n) = ln + n := wrap64_in (by omega) (by omega)
  have a2 : wrap64 (ln + n - 1) = ln + n - 1 := wrap64_in (by omega) (by omega)
  clear h2 h3 h4
  by_cases h6 : ln ≤ hd
  · have h7 : ¬ hd ≤ ln + n - 1 := fun c => h5 ⟨h6, c⟩
    clear h5
    go_enter Try.func59, Try.ntmps59
    go_wp2_with (first
      | (go_at_call 71; (with_reducible refine (isCell_to hm.out e2.out).mono ?_); rintro e w1 ⟨rfl, rfl⟩)
      | (go_at_call 71; (with_reducible refine (isCell_to hm.out e3.out).mono ?_); rintro e w1 ⟨rfl, rfl⟩)
      | (go_at_call 71; (with_reducible refine (isCell_to hm.out e4.out).mono ?_); rintro e w1 ⟨rfl, rfl⟩))
    go_ret2
    exact ⟨rfl, Up.alloc _ _, Whole.new _ _ _⟩
  · clear h5
    go_enter Try.func59, Try.ntmps59
    go_wp2_with (first
      | (go_at_call 71; (with_reducible refine (isCell_to hm.out e2.out).mono ?_); rintro e w1 ⟨rfl, rfl⟩)
      | (go_at_call 71; (with_reducible refine (isCell_to hm.out e3.out).mono ?_); rintro e w1 ⟨rfl, rfl⟩)
      | (go_at_call 71; (with_reducible refine (isCell_to hm.out e4.out).mono ?_); rintro e w1 ⟨rfl, rfl⟩))
    go_ret2
    exact ⟨rfl, Up.alloc _ _, Whole.new _ _ _⟩
end
end Go.Proofs.Yteofgnifpkcgmaa

/-
  Slices of ints: one that is read (Rd), one that is the whole of a block of its own (Ints); a set of ints in a map; slices.Clone; areItems.
-/
namespace Go.Proofs.Yteofgnifpkcgmaa
open Go.RowKit
open Go.Maps
set_option maxRecDepth 100000

def I (l : List Nat) : List Int := l.map (fun x : Nat => (x : Int))
theorem I_len (l : List Nat) : (I l).length = l.length := by simp [I]
theorem I_get {l : List Nat} {j : Nat} (h : j < l.length) : (I l).getD j 0 = (l.getD j 0 : Nat) := by simp [I, List.getD, h]
/-! ### A set of ints, in a map of the call's own -/
def SetAt (w : World) (b k : Nat) (xs : List Int) : Prop :=
  ∃ D : DataW Unit, w.ownsMap Try.prog 3 (plainElem Try.prog 4) b k D ∧ ∀ i : Int, D.atKey (.int .i64 i) (.lit (.bool false)) = .lit (.bool (decide (i ∈ xs)))
theorem keyLaw : Keyed Try.prog 3 := int_keyed Try.underlying3
theorem zeroB (w : World) : (zeroValue 4).run Try.prog w = .ok (.bool false) w := by kernel_rfl
theorem plain_bool_inv {v : Value} {d : DataW Unit} {ps : List MemPlace} {x : Bool} (h : plainElem Try.prog 4 v = some (d, ps)) (hd : d = .lit (.bool x)) : v = .bool x := by
  unfold plainElem at h
  rw [Try.underlying4] at h
  cases v <;> simp at h
  rw [← h.1] at hd
  simpa using hd
theorem SetAt.made (w : World) : SetAt (w.alloc (.map #[] 0)) w.heap.size 0 [] :=
  ⟨.map [], World.ownsMap_made _ _ _ _, fun i => by simp [DataW.atKey]⟩
theorem SetAt.lt {w : World} {b k : Nat} {xs : List Int} (h : SetAt w b k xs) : b < w.heap.size := by
  obtain ⟨D, ho, _⟩ := h; exact ho.lt
end Go.Proofs.Yteofgnifpkcgmaa

/-
  Package stack: areItems; slices.Clone of ints.
-/
namespace Go.Proofs.Yteofgnifpkcgmaa
open Go.RowKit
set_option maxRecDepth 100000

/-- Items, none twice. -/
def Good (n : Nat) (xs : List Int) : Prop := (∀ x ∈ xs, 0 ≤ x ∧ x < n) ∧ xs.Nodup
instance (n : Nat) (xs : List Int) : Decidable (Good n xs) := inferInstanceAs (Decidable (_ ∧ _))
theorem good_nil (n : Nat) : Good n [] := ⟨by simp, List.nodup_nil⟩
theorem good_step {n k : Nat} {xs : List Int} (h : Good n (xs.take k)) (hk : k < xs.length) {x : Int} (hx : xs.getD k 0 = x) (h0 : 0 ≤ x) (h1 : x < n) (h2 : x ∉ xs.take k) : Good n (xs.take (k + 1)) := by
  rw [take_get hk, hx]
  refine ⟨fun y hy => ?_, ?_⟩
  · rcases List.mem_append.1 hy with hy | hy
    · exact h.1 y hy
    · simp at hy; subst hy; exact ⟨h0, h1⟩
  · rw [List.nodup_append]
    refine ⟨h.2, by simp, fun a ha b hb => ?_⟩
    simp at hb; subst hb
    intro e; subst e; exact h2 ha
theorem not_good {n k : Nat} {xs : List Int} (hk : k < xs.length) {x : Int} (hx : xs.getD k 0 = x) (h : x < 0 ∨ (n : Int) ≤ x ∨ x ∈ xs.take k) : ¬ Good n xs := by
  intro ⟨g1, g2⟩
  have hm := g1 _ (get_mem hk)
  rw [hx] at hm
  rcases h with h | h | h
  · omega
  · omega
  · have e : xs = xs.take k ++ xs.getD k 0 :: xs.drop (k + 1) := by
      simp [List.getD, hk]
    rw [e, List.nodup_append] at g2
    exact g2.2.2 x h _ (by simp) hx.symm
theorem wf_small {x : Int} (h0 : 0 ≤ x) (h1 : x < 4096) : (Lit.int .i64 x).wf = true := WalkArith.wf_i64 (by omega)

section
variable {w : World} {p g q hd ln n : Nat} {s : St}
end

end Go.Proofs.Yteofgnifpkcgmaa
