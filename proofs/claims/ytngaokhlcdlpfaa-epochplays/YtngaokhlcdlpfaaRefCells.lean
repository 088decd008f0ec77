/-
  The reference's memory (rundaleref5.M): it lies in the world (Ref), each method's contract in the words of Cells.
-/
import Derived.Test.YtngaokhlcdlpfaaCells
namespace Go.Proofs.Ytngaokhlcdlpfaa
open Go.RowKit

/-- The reference's memory lies at p, its cells at g: what they hold, how many accesses there were. -/
structure Ref (w : World) (p g : Nat) (xs : List Int) (n : Int) : Prop where
  top : Whole w p 37 #[.slice (some ⟨g, 0, none⟩) xs.length xs.length, .int .i64 n]
  row : Whole w g 22 (row xs)
  ne : p ≠ g
theorem Ref.up {w w' : World} {p g : Nat} {xs : List Int} {n : Int} (h : Ref w p g xs n) (u : Up w w') : Ref w' p g xs n := ⟨h.top.up u, h.row.up u, h.ne⟩
theorem Ref.else {w w' : World} {p g : Nat} {xs : List Int} {n : Int} {l : List Nat} (h : Ref w p g xs n) (u : Else l w w') (hp : p ∉ l) (hg : g ∉ l) : Ref w' p g xs n := ⟨u.whole h.top hp, u.whole h.row hg, h.ne⟩
theorem Ref.cells {w : World} {p g : Nat} {xs : List Int} {n : Int} (m : Ref w p g xs n) :
    w.cell? ⟨p, 0, none⟩ = some (.slice (some ⟨g, 0, none⟩) xs.length xs.length) ∧ w.cell? ⟨p, 1, none⟩ = some (.int .i64 n) := ⟨m.top.cell rfl, m.top.cell rfl⟩
theorem Ref.cell {w : World} {p g : Nat} {xs : List Int} {n : Int} (m : Ref w p g xs n) {i : Nat} (h : i < xs.length) : w.cell? ⟨g, i, none⟩ = some (.int .u64 (xs.getD i 0)) := m.row.cell (row_get h)
theorem Ref.count {w : World} {p g : Nat} {xs : List Int} {n : Int} (m : Ref w p g xs n) (n' : Int) : Ref (w.setCell ⟨p, 1, none⟩ (.int .i64 n')) p g xs n' :=
  ⟨m.top.set 1 _, m.row.far (p := ⟨p, 1, none⟩) m.ne.symm _, m.ne⟩
theorem Ref.set {w : World} {p g : Nat} {xs : List Int} {n : Int} (m : Ref w p g xs n) (i : Nat) (v : Int) : Ref (w.setCell ⟨g, i, none⟩ (.int .u64 v)) p g (xs.set i v) n := by
  refine ⟨?_, ?_, m.ne⟩
  · have h := m.top.far (p := ⟨g, i, none⟩) m.ne (.int .u64 v)
    rw [List.length_set]; exact h
  · have h := m.row.set i (.int .u64 v)
    rw [row_set] at h; exact h
theorem else_one {w : World} {p g i : Nat} {u : Value} : Else [p, g] w (w.setCell ⟨p, i, none⟩ u) := (Else.refl [p, g] w).set (.inl (by simp)) _
theorem else_two {w : World} {p g i j : Nat} {u v : Value} : Else [p, g] w ((w.setCell ⟨p, i, none⟩ u).setCell ⟨g, j, none⟩ v) := else_one.set (.inl (by simp)) _

set_option maxHeartbeats 1000000 in
theorem rnew_in (n : Nat) (h1 : n ≤ 8388608) (w : World) :
    Calls Try.prog 10 #[.int .i64 (n : Int)] w fun e w' => e = .returned (.pointer (some ⟨w.heap.size + 1, 0, none⟩)) ∧ Ref w' (w.heap.size + 1) w.heap.size (List.replicate n 0) 0 ∧ Up w w' := by
  have hr := run_row n h1
  go_enter Try.func10, Try.ntmps10
  go_wp2
  go_ret
  refine ⟨rfl, ⟨?_, ?_, by omega⟩, ((Up.refl _).then_alloc _).then_alloc _⟩
  · have h := Whole.new (w.alloc (.cells (row (List.replicate n 0)) 22)) 37 #[.slice (some ⟨w.heap.size, 0, none⟩) (List.replicate n (0 : Int)).length (List.replicate n (0 : Int)).length, .int .i64 0]
    have e : (w.alloc (.cells (row (List.replicate n 0)) 22)).heap.size = w.heap.size + 1 := by simp
    rw [e] at h
    simpa using h
  · exact (Whole.new w 22 (row (List.replicate n 0))).alloc _
set_option maxHeartbeats 1000000 in
theorem rload_in {w : World} {p g : Nat} {xs : List Int} {c : Int} {n : Nat} (m : Ref w p g xs c) (h : n < xs.length) :
    Calls Try.prog 49 #[.pointer (some ⟨p, 0, none⟩), .int .i64 (n : Int)] w fun e w' => e = .returned (.int .u64 (xs.getD n 0)) ∧ Ref w' p g xs (wrap64 (c + 1)) ∧ Else [p, g] w w' := by
  obtain ⟨c0, c1⟩ := m.cells
  have f := m.top.frozen
  have hne := m.ne
  have d := m.cell h
  obtain ⟨x, hx⟩ : ∃ x, xs.getD n 0 = x := ⟨_, rfl⟩
  rw [hx] at d ⊢
  have h1 : (n : Int) < (xs.length : Int) := by omega
  have h0 : (0 : Int) ≤ (n : Int) := by omega
  have hm := Lib.hid m
  clear m hx
  go_enter Try.func49, Try.ntmps49
  go_wp2
  go_ret
  exact ⟨rfl, hm.out.count _, else_one⟩
set_option maxHeartbeats 1000000 in
theorem rstore_in {w : World} {p g : Nat} {xs : List Int} {c : Int} {n : Nat} (v : Int) (m : Ref w p g xs c) (h : n < xs.length) :
    Calls Try.prog 51 #[.pointer (some ⟨p, 0, none⟩), .int .i64 (n : Int), .int .u64 v] w fun e w' => e = .returned (.tuple #[]) ∧ Ref w' p g (xs.set n v) (wrap64 (c + 1)) ∧ Else [p, g] w w' := by
  obtain ⟨c0, c1⟩ := m.cells
  have f := m.top.frozen
  have fg := m.row.frozen
  have hne := m.ne
  have d := m.cell h
  obtain ⟨x, hx⟩ : ∃ x, xs.getD n 0 = x := ⟨_, rfl⟩
  rw [hx] at d
  have h1 : (n : Int) < (xs.length : Int) := by omega
  have h0 : (0 : Int) ≤ (n : Int) := by omega
  have hm := Lib.hid m
  clear m hx
  go_enter Try.func51, Try.ntmps51
  go_wp2
  go_end0
  exact ⟨rfl, (hm.out.count _).set _ _, else_two⟩
set_option maxHeartbeats 1000000 in
theorem rcas_yes {w : World} {p g : Nat} {xs : List Int} {c old : Int} {n : Nat} (v : Int) (m : Ref w p g xs c) (h : n < xs.length) (hx : xs.getD n 0 = old) :
    Calls Try.prog 52 #[.pointer (some ⟨p, 0, none⟩), .int .i64 (n : Int), .int .u64 old, .int .u64 v] w fun e w' => e = .returned (.bool true) ∧ Ref w' p g (xs.set n v) (wrap64 (c + 1)) ∧ Else [p, g] w w' := by
  obtain ⟨c0, c1⟩ := m.cells
  have f := m.top.frozen
  have fg := m.row.frozen
  have hne := m.ne
  have d := m.cell h
  rw [hx] at d
  have h1 : (n : Int) < (xs.length : Int) := by omega
  have h0 : (0 : Int) ≤ (n : Int) := by omega
  have hm := Lib.hid m
  clear m hx
  go_enter Try.func52, Try.ntmps52
  go_wp2
  go_ret
  exact ⟨rfl, (hm.out.count _).set _ _, else_two⟩
set_option maxHeartbeats 1000000 in
theorem rcas_no {w : World} {p g : Nat} {xs : List Int} {c old : Int} {n : Nat} (v : Int) (m : Ref w p g xs c) (h : n < xs.length) (hx : xs.getD n 0 ≠ old) :
    Calls Try.prog 52 #[.pointer (some ⟨p, 0, none⟩), .int .i64 (n : Int), .int .u64 old, .int .u64 v] w fun e w' => e = .returned (.bool false) ∧ Ref w' p g xs (wrap64 (c + 1)) ∧ Else [p, g] w w' := by
  obtain ⟨c0, c1⟩ := m.cells
  have f := m.top.frozen
  have fg := m.row.frozen
  have hne := m.ne
  have d := m.cell h
  obtain ⟨x, ex⟩ : ∃ x, xs.getD n 0 = x := ⟨_, rfl⟩
  rw [ex] at d hx
  have h1 : (n : Int) < (xs.length : Int) := by omega
  have h0 : (0 : Int) ≤ (n : Int) := by omega
  have hm := Lib.hid m
  clear m ex
  go_enter Try.func52, Try.ntmps52
  go_wp2
  go_ret
  exact ⟨rfl, hm.out.count _, else_one⟩
end Go.Proofs.Ytngaokhlcdlpfaa
