/-
  The statements' own has, the reference's SameInts; takes and alone at short lists.
-/
import Derived.Test.YtalhbebpoohgkaaFirst
namespace Go.Proofs.Ytalhbebpoohgkaa
open Go.RowKit
set_option maxRecDepth 100000
section
variable {w w1 w' : World} {p g q n t b r : Nat} {s s' : St} {S : List Nat} {m : Nat → Stk.Mach} {has : Nat → List Nat} {l : List Nat} {cap most : Nat} {v v2 : Value}
theorem rd_one (w : World) (a : Int) : Rd (w.alloc (.cells #[.int .i64 a] 3)) (.slice (some ⟨w.heap.size, 0, none⟩) 1 1) [a] := by
  refine ⟨_, _, rfl, by unfold maxLen; simp, fun j hj => ⟨_, _, rfl, ?_⟩⟩
  simp at hj; subst hj
  exact cell_new rfl rfl
theorem rd_two (w : World) (a b : Int) : Rd (w.alloc (.cells #[.int .i64 a, .int .i64 b] 3)) (.slice (some ⟨w.heap.size, 0, none⟩) 2 2) [a, b] := by
  refine ⟨_, _, rfl, by unfold maxLen; simp, fun j hj => ⟨_, _, rfl, ?_⟩⟩
  have : j = 0 ∨ j = 1 := by simp at hj; omega
  rcases this with rfl | rfl
  · exact cell_new rfl rfl
  · exact cell_new rfl rfl
set_option maxHeartbeats 2000000 in
theorem lhas_any {xs : List Int} (R : Rd w v xs) (x : Int) : Calls Try.prog 32 #[v, .int .i64 x] w fun e w' => e = .returned (.bool (decide (x ∈ xs))) ∧ w = w' := by
  obtain ⟨A, cap, rfl⟩ := R.slice
  have hm := R.len
  unfold maxLen at hm
  have HR := Lib.hid R
  clear R
  go_enter Try.func32, Try.ntmps32
  go_wp2_with fail
  go_loop [5] (fun i => ∃ k : Nat, k ≤ xs.length ∧ i = .int .i64 k ∧ x ∉ xs.take k) (fun i => xs.length - (intOf i).toNat)
  case atStart => exact ⟨0, Nat.zero_le _, rfl, by simp⟩
  case round =>
    obtain ⟨k, hk, rfl, hn⟩ := hrel
    have HN := Lib.hid hn
    clear hn
    by_cases hlt : k < xs.length
    · obtain ⟨b, off, rfl, hc⟩ := HR.out.cell hlt
      obtain ⟨y, hy⟩ : ∃ y, xs.getD k 0 = y := ⟨_, rfl⟩
      rw [hy] at hc
      have HY := Lib.hid hy
      clear hy
      have i0 : (0 : Int) ≤ (k : Int) := Int.natCast_nonneg _
      have i1 : (k : Int) < (xs.length : Int) := by omega
      by_cases e : y = x
      · subst e
        go_wp2_with fail
        go_ret
        exact ⟨ret_bool (decide_eq_true (HY.out ▸ get_mem hlt)).symm, rfl⟩
      · have e2 : (y == x) = false := by simpa using e
        go_wp2_with fail
        go_round
        case rel =>
          refine ⟨k + 1, by omega, by go_num, ?_⟩
          rw [take_get hlt, HY.out]
          simp only [List.mem_append, List.mem_singleton, not_or]
          exact ⟨HN.out, fun h => e h.symm⟩
        case measure => simp [intOf]; omega
    · have e : xs.take k = xs := List.take_of_length_le (by omega)
      have i1 : ¬ (k : Int) < (xs.length : Int) := by omega
      go_wp2_with fail
      go_ret
      exact ⟨ret_bool (decide_eq_false (e ▸ HN.out)).symm, rfl⟩
theorem lhas_to {xs : List Int} (R : Rd w v xs) {x : Int} {c : Bool} (h : decide (x ∈ xs) = c) : Calls Try.prog 32 #[v, .int .i64 x] w fun e w' => e = .returned (.bool c) ∧ w = w' := h ▸ lhas_any R x
set_option maxHeartbeats 2000000 in
theorem same_in {xs : List Int} (R : Rd w v xs) (R2 : Rd w v2 xs) : Calls Try.prog 17 #[v, v2] w fun e w' => e = .returned (.bool true) ∧ Up w w' := by
  obtain ⟨A, cap, rfl⟩ := R.slice
  obtain ⟨A2, cap2, rfl⟩ := R2.slice
  have hm := R.len
  unfold maxLen at hm
  have HR := Lib.hid R
  have HR2 := Lib.hid R2
  clear R R2
  go_enter Try.func17, Try.ntmps17
  go_wp2_with fail
  go_loopw [5] (fun i wr => ∃ k : Nat, k ≤ xs.length ∧ i = .int .i64 k ∧ Up w wr) (fun i _ => xs.length - (intOf i).toNat)
  case atStart => exact ⟨0, Nat.zero_le _, rfl, Up.refl _⟩
  case round =>
    obtain ⟨k, hk, rfl, hu⟩ := hrel
    have HU := Lib.hid hu
    clear hu
    by_cases hlt : k < xs.length
    · obtain ⟨b, off, rfl, hc⟩ := HR.out.cell hlt
      obtain ⟨b2, off2, rfl, hc2⟩ := HR2.out.cell hlt
      replace hc := HU.out.kept hc
      replace hc2 := HU.out.kept hc2
      obtain ⟨y, hy⟩ : ∃ y, xs.getD k 0 = y := ⟨_, rfl⟩
      rw [hy] at hc hc2
      have i0 : (0 : Int) ≤ (k : Int) := Int.natCast_nonneg _
      have i1 : (k : Int) < (xs.length : Int) := by omega
      clear hy
      go_upto_region 6 with fail
      go_quiet (fail)
      go_wp2_with fail
      go_roundw
      case rel => exact ⟨k + 1, by omega, by go_num, HU.out.then_drewN nq⟩
      case measure => simp [intOf]; omega
    · have i1 : ¬ (k : Int) < (xs.length : Int) := by omega
      go_wp2_with fail
      go_ret
      exact ⟨rfl, HU.out⟩
theorem min2' : min (max (2 : Int) 1) 8 = ((2 : Nat) : Int) := by decide
theorem takes2 {x y : Nat} {R : List Nat} (Y : Sys w p g q n s t (x :: y :: R) m has) {u : Nat} (hu : u < 4) (hm : m u = .idle) (ht : t < 4294967295) :
    Calls Try.prog 29 #[.pointer (some ⟨q, 0, none⟩), .int .i64 2] w fun e w' => ∃ r cap s' has', e = .returned (.tuple #[.slice (some ⟨r, 0, none⟩) 2 cap, .int .i64 4]) ∧ w'.cell? ⟨r, 0, none⟩ = some (.int .i64 x) ∧ w'.cell? ⟨r, 1, none⟩ = some (.int .i64 y) ∧ r ∉ [p, g] ∧ has' u = has u ++ [x, y] ∧ Sys w' p g q n s' (t + 1) R m has' ∧ Else [p, g] w w' := by
  have hm2 : min 2 (x :: y :: R).length = 2 := by simp
  have h := takes_in Y hu hm (by simp) ht min2'
  rw [hm2] at h
  refine h.mono ?_
  rintro e w' ⟨r, cap, s', rfl, i1, h1, Y', E'⟩
  have g1 := Y.env.mem.top.lt
  have g2 := Y.env.mem.row.lt
  exact ⟨r, cap, s', _, rfl, i1.at_ (j := 0) (by simp), i1.at_ (j := 1) (by simp), by simp; omega, Stk.upd_same _ _ _, Y', E'⟩
theorem alone_to {k : Int} (Y : Sys w p g q n s t S m has) {u : Nat} (hu : u < 4) (hm : m u = .idle) {rr : List Nat} (hh : has u = l ++ rr) (h0 : l ≠ []) (hn : n ≤ 400) (ht : t < 4294967295) {xs : List Int} (R : Rd w v xs) (hx : xs = I l) (hk : (l.length : Int) + 2 = k) :
    Calls Try.prog 28 #[.pointer (some ⟨q, 0, none⟩), v] w fun e w' => e = .returned (.int .i64 k) ∧ ∃ s' has', has' u = rr ∧ Sys w' p g q n s' (t + 1) (l ++ S) m has' ∧ Else [p, g] w w' := by
  subst hx hk
  refine (alone_in Y hu hm hh h0 hn ht R).mono ?_
  rintro e w' ⟨rfl, s', Y', E'⟩
  exact ⟨rfl, s', _, Stk.upd_same _ _ _, Y', E'⟩
/-- One item by itself, its list just made. -/
theorem alone1 {a : Int} (x : Nat) {rr : List Nat} (Y : Sys w p g q n s t S m has) {u : Nat} (hu : u < 4) (hm : m u = .idle) (hh : has u = x :: rr) (hn : n ≤ 400) (ht : t < 4294967295) (ha : a = (x : Int)) :
    Calls Try.prog 28 #[.pointer (some ⟨q, 0, none⟩), .slice (some ⟨w.heap.size, 0, none⟩) 1 1] (w.alloc (.cells #[.int .i64 a] 3)) fun e w' => e = .returned (.int .i64 3) ∧ ∃ s' has', has' u = rr ∧ Sys w' p g q n s' (t + 1) (x :: S) m has' ∧ Else [p, g] w w' := by
  subst ha
  refine (alone_to (k := 3) (l := [x]) (rr := rr) (Y.up (Up.alloc _ _)) hu hm hh (by simp) hn ht (rd_one _ _) rfl rfl).mono ?_
  rintro e w' ⟨rfl, s', has', h1, Y', E'⟩
  exact ⟨rfl, s', has', h1, Y', (Else.of_up (Up.alloc _ _)).trans E'⟩
theorem alone2 {a c : Int} (x y : Nat) {rr : List Nat} (Y : Sys w p g q n s t S m has) {u : Nat} (hu : u < 4) (hm : m u = .idle) (hh : has u = x :: y :: rr) (hn : n ≤ 400) (ht : t < 4294967295) (ha : a = (x : Int)) (hc : c = (y : Int)) :
    Calls Try.prog 28 #[.pointer (some ⟨q, 0, none⟩), .slice (some ⟨w.heap.size, 0, none⟩) 2 2] (w.alloc (.cells #[.int .i64 a, .int .i64 c] 3)) fun e w' => e = .returned (.int .i64 4) ∧ ∃ s' has', has' u = rr ∧ Sys w' p g q n s' (t + 1) (x :: y :: S) m has' ∧ Else [p, g] w w' := by
  subst ha hc
  refine (alone_to (k := 4) (l := [x, y]) (rr := rr) (Y.up (Up.alloc _ _)) hu hm hh (by simp) hn ht (rd_two _ _ _) rfl rfl).mono ?_
  rintro e w' ⟨rfl, s', has', h1, Y', E'⟩
  exact ⟨rfl, s', has', h1, Y', (Else.of_up (Up.alloc _ _)).trans E'⟩
/-- A machine that has no items in its hands is gone. -/
theorem Sys.rest (Y : Sys w p g q n s t S m has) {u : Nat} (hu : u < 4) (h : Stk.puts (m u) = []) : Sys w p g q n s t S (Stk.upd m u .idle) has := ⟨Y.env, Y.len, Y.gi.pop_over hu h⟩
end
end Go.Proofs.Ytalhbebpoohgkaa
