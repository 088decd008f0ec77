/-
  Package epoch: the epoch over its cells (Epo), the small functions, New.
-/
import Derived.Test.YtngaokhlcdlpfaaCellsMore
namespace Go.Proofs.Ytngaokhlcdlpfaa
open Go.RowKit
open W64
set_option maxRecDepth 100000

/-- The epoch that a word tells. -/
def epN (x : Int) : Int := if x ≤ 4611686018427387903 then x else 4611686018427387903
theorem epN_in {x : Int} (h : 0 ≤ x) : 0 ≤ epN x ∧ epN x ≤ 4611686018427387903 := by unfold epN; split <;> omega
theorem epN_pin {x : Int} (h : 0 ≤ x) : pinB (epN x) = true := by
  have := epN_in h
  unfold pinB inB
  simp; omega
/-- An epoch lies at q, over the memory at p, whose cells lie at g. -/
structure Epo (w : World) (p g q at_ pn n : Nat) (s : St) : Prop where
  mem : Mem w p g s
  obj : Whole w q 88 #[.pointer (some ⟨p, 0, none⟩), .int .i64 at_, .int .i64 pn, .int .i64 n]
  ok : s.Ok
  np : q ≠ p
  ng : q ≠ g
  n0 : 1 ≤ n
  n1 : n ≤ 64
  ha : at_ < s.xs.length
  hp : pn + n ≤ s.xs.length
  top : s.xs.length ≤ 8388608
  far : at_ < pn ∨ pn + n ≤ at_
section
variable {w w' : World} {p g q at_ pn n : Nat} {s : St}
theorem Epo.up (E : Epo w p g q at_ pn n s) (u : Up w w') : Epo w' p g q at_ pn n s := ⟨E.mem.up u, E.obj.up u, E.ok, E.np, E.ng, E.n0, E.n1, E.ha, E.hp, E.top, E.far⟩
theorem Epo.else (E : Epo w p g q at_ pn n s) {l : List Nat} (u : Else l w w') (h1 : p ∉ l) (h2 : g ∉ l) (h3 : q ∉ l) : Epo w' p g q at_ pn n s :=
  ⟨E.mem.else u h1 h2, u.whole E.obj h3, E.ok, E.np, E.ng, E.n0, E.n1, E.ha, E.hp, E.top, E.far⟩
theorem Epo.turn (E : Epo w p g q at_ pn n s) {s' : St} {l : List Nat} (m : Mem w' p g s') (u : Else l w w') (hq : q ∉ l) (ok : s'.Ok) (hl : s'.xs.length = s.xs.length) : Epo w' p g q at_ pn n s' :=
  ⟨m, u.whole E.obj hq, ok, E.np, E.ng, E.n0, E.n1, hl ▸ E.ha, hl ▸ E.hp, hl ▸ E.top, E.far⟩
theorem Epo.cells (E : Epo w p g q at_ pn n s) : w.cell? ⟨q, 0, none⟩ = some (.pointer (some ⟨p, 0, none⟩)) ∧ w.cell? ⟨q, 1, none⟩ = some (.int .i64 at_) ∧ w.cell? ⟨q, 2, none⟩ = some (.int .i64 pn) ∧ w.cell? ⟨q, 3, none⟩ = some (.int .i64 n) :=
  ⟨E.obj.cell rfl, E.obj.cell rfl, E.obj.cell rfl, E.obj.cell rfl⟩
theorem Epo.hasA (E : Epo w p g q at_ pn n s) : s.has at_ := ⟨by omega, by have := E.ha; omega⟩
theorem Epo.hasP (E : Epo w p g q at_ pn n s) {i : Nat} (h1 : i < n) : s.has ((pn : Int) + i) := ⟨by omega, by have := E.hp; omega⟩
theorem Epo.q2 (E : Epo w p g q at_ pn n s) : q ∉ [p, g] := by simp [E.np, E.ng]

set_option maxHeartbeats 400000 in
theorem ofWord_any (x : Int) (h0 : 0 ≤ x) (w : World) :
    Calls Try.prog 41 #[.int .u64 x] w fun e w' => e = .returned (.int .i64 (epN x)) ∧ w = w' := by
  by_cases h : x ≤ 4611686018427387903
  · have e : epN x = x := by unfold epN; rw [if_pos h]
    rw [e]
    have e1 : IntKind.i64.wrap x = x := IntWalk.i64_in _ (by omega)
    go_enter Try.func41, Try.ntmps41
    go_wp2
    go_ret
    exact ⟨ret_int (by first | rfl | exact e1 | omega), rfl⟩
  · have e : epN x = 4611686018427387903 := by unfold epN; rw [if_neg h]
    rw [e]
    go_enter Try.func41, Try.ntmps41
    go_wp2
    go_ret
    exact ⟨ret_int (by first | rfl | decide), rfl⟩
theorem ofWord_to {x y : Int} (e : epN x = y) (h0 : 0 ≤ x) (w : World) :
    Calls Try.prog 41 #[.int .u64 x] w fun e w' => e = .returned (.int .i64 y) ∧ w = w' := e ▸ ofWord_any x h0 w
theorem getPin_to {x y : Int} {c : Bool} (e : pinE x = y) (ec : pinO x = c) (h0 : 0 ≤ x) (h1 : x < 18446744073709551616) (w : World) :
    Calls Try.prog 40 #[.int .u64 x] w fun e w' => e = .returned (.tuple #[.int .i64 y, .bool c]) ∧ w = w' := e ▸ ec ▸ getPin_any x w h0 h1
theorem putPin_to {x y : Int} (e : pinV x = y) (ec : pinB x = true) (w : World) :
    Calls Try.prog 29 #[.int .i64 x] w fun e w' => e = .returned (.tuple #[.int .u64 y, .bool true]) ∧ w = w' := by
  have h := putPin_any x w
  rw [e, ec] at h; exact h

set_option maxHeartbeats 400000 in
theorem ehas_yes (E : Epo w p g q at_ pn n s) {i : Int} (h0 : 0 ≤ i) (h1 : i < n) :
    Calls Try.prog 39 #[.pointer (some ⟨q, 0, none⟩), .int .i64 i] w fun e w' => e = .returned (.bool true) ∧ w = w' := by
  have c3 := E.cells.2.2.2
  clear E
  go_enter Try.func39, Try.ntmps39
  go_wp2
  go_ret
  exact ⟨rfl, rfl⟩
set_option maxHeartbeats 400000 in
theorem ehas_no (E : Epo w p g q at_ pn n s) {i : Int} (h : ¬ (0 ≤ i ∧ i < n)) :
    Calls Try.prog 39 #[.pointer (some ⟨q, 0, none⟩), .int .i64 i] w fun e w' => e = .returned (.bool false) ∧ w = w' := by
  have c3 := E.cells.2.2.2
  clear E
  by_cases h0 : 0 ≤ i
  · have h1 : ¬ i < n := fun c => h ⟨h0, c⟩
    clear h
    go_enter Try.func39, Try.ntmps39
    go_wp2
    go_ret
    exact ⟨rfl, rfl⟩
  · clear h
    go_enter Try.func39, Try.ntmps39
    go_wp2
    go_ret
    exact ⟨rfl, rfl⟩

set_option maxHeartbeats 400000 in
theorem eisCell_any (m : Mem w p g s) (i : Int) :
    Calls Try.prog 48 #[.pointer (some ⟨p, 0, none⟩), .int .i64 i] w fun e w' => e = .returned (.bool (decide (s.has i))) ∧ w = w' := by
  have hm := Lib.hid m
  clear m
  by_cases h0 : 0 ≤ i
  · by_cases h1 : i < s.xs.length
    · have e : decide (s.has i) = true := decide_eq_true ⟨h0, h1⟩
      rw [e]
      go_enter Try.func48, Try.ntmps48
      go_wp2_with (go_at_call 57; refine (len_any hm.out).mono ?_; rintro e w1 ⟨rfl, rfl⟩)
      go_ret
      exact ⟨rfl, rfl⟩
    · have e : decide (s.has i) = false := decide_eq_false fun h => h1 h.2
      rw [e]
      go_enter Try.func48, Try.ntmps48
      go_wp2_with (go_at_call 57; refine (len_any hm.out).mono ?_; rintro e w1 ⟨rfl, rfl⟩)
      go_ret
      exact ⟨ret_bool (decide_eq_false (by omega)), rfl⟩
  · have e : decide (s.has i) = false := decide_eq_false fun h => h0 h.1
    rw [e]
    go_enter Try.func48, Try.ntmps48
    go_wp2_with fail
    go_ret
    exact ⟨rfl, rfl⟩
theorem eisCell_to (m : Mem w p g s) {i : Int} {b : Bool} (h : decide (s.has i) = b) :
    Calls Try.prog 48 #[.pointer (some ⟨p, 0, none⟩), .int .i64 i] w fun e w' => e = .returned (.bool b) ∧ w = w' := h ▸ eisCell_any m i
/-- May there be an epoch over these cells? -/
def epoB (s : St) (hd ln n : Int) : Prop := 1 ≤ n ∧ n ≤ 64 ∧ s.has hd ∧ s.has ln ∧ s.has (ln + n - 1) ∧ ¬ (ln ≤ hd ∧ hd ≤ ln + n - 1)
set_option maxHeartbeats 1000000 in
theorem enew_no (m : Mem w p g s) {hd ln n : Int} (hs : s.xs.length ≤ 8388608) (h : ¬ epoB s hd ln n) :
    Calls Try.prog 31 #[.pointer (some ⟨p, 0, none⟩), .int .i64 hd, .int .i64 ln, .int .i64 n] w fun e w' => e = .returned (.tuple #[.pointer none, .int .i64 1]) ∧ w = w' := by
  have hm := Lib.hid m
  clear m
  by_cases h0 : 1 ≤ n
  rotate_left
  · go_enter Try.func31, Try.ntmps31
    go_wp2_with fail
    go_ret2
    exact ⟨rfl, rfl⟩
  by_cases h1 : n ≤ 64
  rotate_left
  · go_enter Try.func31, Try.ntmps31
    go_wp2_with fail
    go_ret2
    exact ⟨rfl, rfl⟩
  by_cases h2 : s.has hd
  rotate_left
  · have e2 := Lib.hid (decide_eq_false h2)
    go_enter Try.func31, Try.ntmps31
    go_wp2_with (go_at_call 48; (with_reducible refine (eisCell_to hm.out e2.out).mono ?_); rintro e w1 ⟨rfl, rfl⟩)
    go_ret2
    exact ⟨rfl, rfl⟩
  have e2 := Lib.hid (decide_eq_true h2)
  by_cases h3 : s.has ln
  rotate_left
  · have e3 := Lib.hid (decide_eq_false h3)
    go_enter Try.func31, Try.ntmps31
    go_wp2_with (first
      | (go_at_call 48; (with_reducible refine (eisCell_to hm.out e2.out).mono ?_); rintro e w1 ⟨rfl, rfl⟩)
      | (go_at_call 48; (with_reducible refine (eisCell_to hm.out e3.out).mono ?_); rintro e w1 ⟨rfl, rfl⟩))
    go_ret2
    exact ⟨rfl, rfl⟩
  have e3 := Lib.hid (decide_eq_true h3)
  have l0 := h3.1
  have l1 := h3.2
  have a1 : wrap64 (ln + n) = ln + n := wrap64_in (by omega) (by omega)
  have a2 : wrap64 (ln + n - 1) = ln + n - 1 := wrap64_in (by omega) (by omega)
  by_cases h4 : s.has (ln + n - 1)
  rotate_left
  · have e4 := Lib.hid (decide_eq_false h4)
    clear h2 h3 h4 h
    go_enter Try.func31, Try.ntmps31
    go_wp2_with (first
      | (go_at_call 48; (with_reducible refine (eisCell_to hm.out e2.out).mono ?_); rintro e w1 ⟨rfl, rfl⟩)
      | (go_at_call 48; (with_reducible refine (eisCell_to hm.out e3.out).mono ?_); rintro e w1 ⟨rfl, rfl⟩)
      | (go_at_call 48; (with_reducible refine (eisCell_to hm.out e4.out).mono ?_); rintro e w1 ⟨rfl, rfl⟩))
    go_ret2
    exact ⟨rfl, rfl⟩
  have e4 := Lib.hid (decide_eq_true h4)
  have h5 : ln ≤ hd ∧ hd ≤ ln + n - 1 := by
    by_cases c : ln ≤ hd ∧ hd ≤ ln + n - 1
    · exact c
    · exact absurd ⟨h0, h1, h2, h3, h4, c⟩ h
  obtain ⟨h5, h6⟩ := h5
  clear h2 h3 h4 h
  go_enter Try.func31, Try.ntmps31
  go_wp2_with (first
    | (go_at_call 48; (with_reducible refine (eisCell_to hm.out e2.out).mono ?_); rintro e w1 ⟨rfl, rfl⟩)
    | (go_at_call 48; (with_reducible refine (eisCell_to hm.out e3.out).mono ?_); rintro e w1 ⟨rfl, rfl⟩)
    | (go_at_call 48; (with_reducible refine (eisCell_to hm.out e4.out).mono ?_); rintro e w1 ⟨rfl, rfl⟩))
  go_ret2
  exact ⟨rfl, rfl⟩
set_option maxHeartbeats 1000000 in
theorem enew_yes (m : Mem w p g s) {hd ln n : Int} (hs : s.xs.length ≤ 8388608) (h : epoB s hd ln n) :
    Calls Try.prog 31 #[.pointer (some ⟨p, 0, none⟩), .int .i64 hd, .int .i64 ln, .int .i64 n] w fun e w' => e = .returned (.tuple #[.pointer (some ⟨w.heap.size, 0, none⟩), .int .i64 0]) ∧ Up w w' ∧ Whole w' w.heap.size 88 #[.pointer (some ⟨p, 0, none⟩), .int .i64 hd, .int .i64 ln, .int .i64 n] := by
  have hm := Lib.hid m
  clear m
  obtain ⟨h0, h1, h2, h3, h4, h5⟩ := h
  have e2 := Lib.hid (decide_eq_true h2)
  have e3 := Lib.hid (decide_eq_true h3)
  have e4 := Lib.hid (decide_eq_true h4)
  have l0 := h3.1
  have l1 := h3.2
  have a1 : wrap64 (ln + n) = ln + n := wrap64_in (by omega) (by omega)
  have a2 : wrap64 (ln + n - 1) = ln + n - 1 := wrap64_in (by omega) (by omega)
  clear h2 h3 h4
  by_cases h6 : ln ≤ hd
  · have h7 : ¬ hd ≤ ln + n - 1 := fun c => h5 ⟨h6, c⟩
    clear h5
    go_enter Try.func31, Try.ntmps31
    go_wp2_with (first
      | (go_at_call 48; (with_reducible refine (eisCell_to hm.out e2.out).mono ?_); rintro e w1 ⟨rfl, rfl⟩)
      | (go_at_call 48; (with_reducible refine (eisCell_to hm.out e3.out).mono ?_); rintro e w1 ⟨rfl, rfl⟩)
      | (go_at_call 48; (with_reducible refine (eisCell_to hm.out e4.out).mono ?_); rintro e w1 ⟨rfl, rfl⟩))
    go_ret2
    exact ⟨rfl, Up.alloc _ _, Whole.new _ _ _⟩
  · clear h5
    go_enter Try.func31, Try.ntmps31
    go_wp2_with (first
      | (go_at_call 48; (with_reducible refine (eisCell_to hm.out e2.out).mono ?_); rintro e w1 ⟨rfl, rfl⟩)
      | (go_at_call 48; (with_reducible refine (eisCell_to hm.out e3.out).mono ?_); rintro e w1 ⟨rfl, rfl⟩)
      | (go_at_call 48; (with_reducible refine (eisCell_to hm.out e4.out).mono ?_); rintro e w1 ⟨rfl, rfl⟩))
    go_ret2
    exact ⟨rfl, Up.alloc _ _, Whole.new _ _ _⟩

set_option maxHeartbeats 1000000 in
theorem now_any (E : Epo w p g q at_ pn n s) {y : Int} (hy : epN (s.get at_) = y) :
    Calls Try.prog 18 #[.pointer (some ⟨q, 0, none⟩)] w fun e w' => e = .returned (.int .i64 y) ∧ Up w w' := by
  obtain ⟨c0, c1, _, _⟩ := E.cells
  have hh := Lib.hid E.hasA
  have hk := Lib.hid (E.ok at_)
  have HY := Lib.hid hy
  have HM := Lib.hid E.mem
  clear E hy
  go_enter Try.func18, Try.ntmps18
  go_upto_region 1 with fail
  go_quiet (first
    | (go_at_call 14; exact quiet_eq (peek_in (HM.out.up (Up.drewN _ _)) hh.out))
    | (go_at_call 41; exact quiet_eq (ofWord_to HY.out hk.out.1 _)))
  go_wp2_with fail
  go_ret
  exact ⟨rfl, Up.drewN _ _⟩
set_option maxHeartbeats 1000000 in
theorem pinned_yes (E : Epo w p g q at_ pn n s) {i : Nat} (hi : i < n) {y : Int} {c : Bool} (hy : pinE (s.get ((pn : Int) + i)) = y) (hc : pinO (s.get ((pn : Int) + i)) = c) :
    Calls Try.prog 15 #[.pointer (some ⟨q, 0, none⟩), .int .i64 i] w fun e w' => e = .returned (.tuple #[.int .i64 y, .bool c]) ∧ Up w w' := by
  obtain ⟨c0, _, c2, _⟩ := E.cells
  have ht := E.top
  have hp := E.hp
  have hh := Lib.hid (E.hasP hi)
  have hk := Lib.hid (E.ok ((pn : Int) + i))
  have HY := Lib.hid hy
  have HC := Lib.hid hc
  have HM := Lib.hid E.mem
  have HE := Lib.hid E
  have s1 : wrap64 ((pn : Int) + i) = pn + i := wrap64_in (by omega) (by omega)
  have s2 : IntKind.i64.wrap ((pn : Int) + i) = pn + i := IntWalk.i64_in _ (by omega)
  clear E hy hc
  go_enter Try.func15, Try.ntmps15
  go_upto_region 3 with (go_at_call 39; refine (ehas_yes HE.out (by omega) (by omega)).mono ?_; rintro e w1 ⟨rfl, rfl⟩)
  go_quiet (first
    | (go_at_call 14; exact quiet_eq (peek_in (HM.out.up (Up.drewN _ _)) hh.out))
    | (go_at_call 40; exact quiet_eq (getPin_to HY.out HC.out hk.out.1 hk.out.2 _)))
  go_wp2_with fail
  go_ret2
  exact ⟨rfl, Up.drewN _ _⟩
theorem pinned_no (E : Epo w p g q at_ pn n s) {i : Int} (h : ¬ (0 ≤ i ∧ i < n)) :
    Calls Try.prog 15 #[.pointer (some ⟨q, 0, none⟩), .int .i64 i] w fun e w' => e = .returned (.tuple #[.int .i64 0, .bool false]) ∧ w = w' := by
  have hn := Lib.hid (ehas_no E h)
  clear E h
  go_enter Try.func15, Try.ntmps15
  go_wp2_with (go_at_call 39; refine hn.out.mono ?_; rintro e w1 ⟨rfl, rfl⟩)
  go_ret2
  exact ⟨rfl, rfl⟩
end
end Go.Proofs.Ytngaokhlcdlpfaa
