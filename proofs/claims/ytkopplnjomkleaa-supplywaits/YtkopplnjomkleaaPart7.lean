/-
  Texts beneath SupplyWaits, part 7: Cells, CellsLaws, W64, BitsMath.
-/
import Derived.Test.YtkopplnjomkleaaPart6
import Derived.OwnWalk
import Derived.WalkKit
import Derived.Laws.BitsAllLaws
/-
  Package cells: what a memory is, told by a list of words and the last access (St); Mem: it lies in the world; each method's contract.
-/
namespace Go.Proofs.Ytkopplnjomkleaa
open Go.RowKit

/-- A memory: what its cells hold, how many accesses there were, the last one. -/
structure St where
  xs : List Int
  c : Int
  k : Int
  a : Int
  o : Int
  v : Int
  y : Bool
def St.zero (n : Nat) : St := ⟨List.replicate n 0, 0, 0, 0, 0, 0, false⟩
def St.get (s : St) (i : Int) : Int := s.xs.getD i.toNat 0
def St.hit (s : St) (k i v : Int) (y : Bool) : St := ⟨s.xs.set i.toNat v, wrap64 (s.c + 1), k, i, s.get i, v, y⟩
def St.lay (s : St) (i v : Int) : St := { s with xs := s.xs.set i.toNat v }
def St.last (s : St) : Value := .agg #[.int .i64 s.k, .int .i64 s.a, .int .u64 s.o, .int .u64 s.v, .bool s.y]
def St.has (s : St) (i : Int) : Prop := 0 ≤ i ∧ i < s.xs.length
def row (xs : List Int) : Array Value := (xs.map (Value.int .u64)).toArray
/-- The memory s lies at p, its cells at g. -/
structure Mem (w : World) (p g : Nat) (s : St) : Prop where
  top : Whole w p 87 #[.slice (some ⟨g, 0, none⟩) s.xs.length s.xs.length, .int .i64 s.c, .int .i64 s.k, .int .i64 s.a, .int .u64 s.o, .int .u64 s.v, .bool s.y]
  row : Whole w g 41 (row s.xs)
  ne : p ≠ g

theorem row_get {xs : List Int} {i : Nat} (h : i < xs.length) : (row xs)[i]? = some (.int .u64 (xs.getD i 0)) := by
  simp [row, List.getD, h]
theorem row_set (xs : List Int) (i : Nat) (v : Int) : (row xs).setIfInBounds i (.int .u64 v) = row (xs.set i v) := by
  simp [row, List.map_set]
theorem Mem.up {w w' : World} {p g : Nat} {s : St} (h : Mem w p g s) (u : Up w w') : Mem w' p g s := ⟨h.top.up u, h.row.up u, h.ne⟩
theorem Mem.else {w w' : World} {p g : Nat} {s : St} {l : List Nat} (h : Mem w p g s) (u : Else l w w') (hp : p ∉ l) (hg : g ∉ l) : Mem w' p g s := ⟨u.whole h.top hp, u.whole h.row hg, h.ne⟩

set_option maxHeartbeats 400000 in
theorem has_in {w : World} {p g : Nat} {s : St} {i : Int} (m : Mem w p g s) (h : s.has i) :
    Calls Try.prog 33 #[.pointer (some ⟨p, 0, none⟩), .int .i64 i] w fun e w' => e = .returned (.bool true) ∧ w = w' := by
  have c0 := m.top.cell (i := 0) rfl
  obtain ⟨h0, h1⟩ := h
  go_enter Try.func33, Try.ntmps33
  go_wp2
  go_ret
  exact ⟨rfl, rfl⟩
set_option maxHeartbeats 400000 in
theorem has_out {w : World} {p g : Nat} {s : St} {i : Int} (m : Mem w p g s) (h : ¬ s.has i) :
    Calls Try.prog 33 #[.pointer (some ⟨p, 0, none⟩), .int .i64 i] w fun e w' => e = .returned (.bool false) ∧ w = w' := by
  have c0 := m.top.cell (i := 0) rfl
  by_cases h0 : 0 ≤ i
  · have h1 : ¬ i < s.xs.length := fun h' => h ⟨h0, h'⟩
    go_enter Try.func33, Try.ntmps33
    go_wp2
    go_ret
    exact ⟨rfl, rfl⟩
  · go_enter Try.func33, Try.ntmps33
    go_wp2
    go_ret
    exact ⟨rfl, rfl⟩
theorem Mem.cells {w : World} {p g : Nat} {s : St} (m : Mem w p g s) :
    w.cell? ⟨p, 0, none⟩ = some (.slice (some ⟨g, 0, none⟩) s.xs.length s.xs.length) ∧ w.cell? ⟨p, 1, none⟩ = some (.int .i64 s.c) ∧ w.cell? ⟨p, 2, none⟩ = some (.int .i64 s.k) ∧
    w.cell? ⟨p, 3, none⟩ = some (.int .i64 s.a) ∧ w.cell? ⟨p, 4, none⟩ = some (.int .u64 s.o) ∧ w.cell? ⟨p, 5, none⟩ = some (.int .u64 s.v) ∧ w.cell? ⟨p, 6, none⟩ = some (.bool s.y) :=
  ⟨m.top.cell rfl, m.top.cell rfl, m.top.cell rfl, m.top.cell rfl, m.top.cell rfl, m.top.cell rfl, m.top.cell rfl⟩
theorem Mem.cell {w : World} {p g : Nat} {s : St} (m : Mem w p g s) {n : Nat} (h : s.has n) : w.cell? ⟨g, n, none⟩ = some (.int .u64 (s.get n)) :=
  m.row.cell (row_get (by have := h.2; omega))
/-- What a stroke leaves. -/
theorem Mem.hit {w : World} {p g : Nat} {s : St} (m : Mem w p g s) (k : Int) (n : Nat) (v x : Int) (y : Bool) (hx : x = s.get n) :
    Mem (((((((w.setCell ⟨p, 2, none⟩ (.int .i64 k)).setCell ⟨p, 3, none⟩ (.int .i64 n)).setCell ⟨p, 4, none⟩ (.int .u64 x)).setCell ⟨p, 5, none⟩ (.int .u64 v)).setCell ⟨p, 6, none⟩ (.bool y)).setCell ⟨p, 1, none⟩ (.int .i64 (wrap64 (s.c + 1)))).setCell ⟨g, n, none⟩ (.int .u64 v)) p g (s.hit k n v y) := by
  subst hx
  have ne := m.ne
  refine ⟨?_, ?_, ne⟩
  · have h := (((((m.top.set 2 (.int .i64 k)).set 3 (.int .i64 n)).set 4 (.int .u64 (s.get n))).set 5 (.int .u64 v)).set 6 (.bool y)).set 1 (.int .i64 (wrap64 (s.c + 1)))
    have h2 := h.far (p := ⟨g, n, none⟩) ne (.int .u64 v)
    have e : (s.hit k n v y).xs.length = s.xs.length := by simp [St.hit]
    rw [e]; exact h2
  · have h := ((((((m.row.far (p := ⟨p, 2, none⟩) ne.symm (.int .i64 k)).far (p := ⟨p, 3, none⟩) ne.symm (.int .i64 n)).far (p := ⟨p, 4, none⟩) ne.symm (.int .u64 (s.get n))).far (p := ⟨p, 5, none⟩) ne.symm (.int .u64 v)).far (p := ⟨p, 6, none⟩) ne.symm (.bool y)).far (p := ⟨p, 1, none⟩) ne.symm (.int .i64 (wrap64 (s.c + 1)))).set n (.int .u64 v)
    rw [row_set] at h; exact h
theorem else_hit {w : World} {p g : Nat} {q1 q2 q3 q4 q5 q6 q7 : Nat} {u1 u2 u3 u4 u5 u6 u7 : Value} :
    Else [p, g] w (((((((w.setCell ⟨p, q1, none⟩ u1).setCell ⟨p, q2, none⟩ u2).setCell ⟨p, q3, none⟩ u3).setCell ⟨p, q4, none⟩ u4).setCell ⟨p, q5, none⟩ u5).setCell ⟨p, q6, none⟩ u6).setCell ⟨g, q7, none⟩ u7) :=
  (((((((Else.refl [p, g] w).set (.inl (by simp)) _).set (.inl (by simp)) _).set (.inl (by simp)) _).set (.inl (by simp)) _).set (.inl (by simp)) _).set (.inl (by simp)) _).set (.inl (by simp)) _

set_option maxHeartbeats 1000000 in
theorem stroke_in {w : World} {p g : Nat} {s : St} {i : Int} (k v : Int) (y : Bool) (m : Mem w p g s) (h : s.has i) :
    Calls Try.prog 81 #[.pointer (some ⟨p, 0, none⟩), .int .i64 k, .int .i64 i, .int .u64 v, .bool y] w fun e w' => e = .returned (.tuple #[]) ∧ Mem w' p g (s.hit k i v y) ∧ Else [p, g] w w' := by
  obtain ⟨c0, c1, c2, c3, c4, c5, c6⟩ := m.cells
  have f := m.top.frozen
  have fg := m.row.frozen
  have hne := m.ne
  have hh := Lib.hid h
  obtain ⟨h0, h1⟩ := h
  obtain ⟨n, rfl⟩ := Int.eq_ofNat_of_zero_le h0
  have d := m.cell hh.out
  obtain ⟨x, hx⟩ : ∃ x, x = s.get n := ⟨_, rfl⟩
  rw [← hx] at d
  have hx := Lib.hid hx
  have hm := Lib.hid m
  clear m
  go_enter Try.func81, Try.ntmps81
  go_wp2
  go_end0
  exact ⟨rfl, hm.out.hit k n v _ y rfl, else_hit⟩

set_option maxHeartbeats 1000000 in
theorem load_in {w : World} {p g : Nat} {s : St} {i : Int} (m : Mem w p g s) (h : s.has i) :
    Calls Try.prog 69 #[.pointer (some ⟨p, 0, none⟩), .int .i64 i] w fun e w' => e = .returned (.tuple #[.int .u64 (s.get i), .int .i64 0]) ∧ Mem w' p g (s.hit 1 i (s.get i) true) ∧ Else [p, g] w w' := by
  have c0 := m.top.cell (i := 0) rfl
  have hh := Lib.hid h
  obtain ⟨h0, h1⟩ := h
  obtain ⟨n, rfl⟩ := Int.eq_ofNat_of_zero_le h0
  have d := m.cell hh.out
  have hm := Lib.hid m
  clear m
  go_enter Try.func69, Try.ntmps69
  go_wp2_with (first
    | (go_at_call 33; refine (has_in hm.out hh.out).mono ?_; rintro e w' ⟨rfl, rfl⟩)
    | (go_at_call 81; refine (stroke_in _ _ _ hm.out hh.out).mono ?_; rintro e w' ⟨rfl, M1, E1⟩))
  go_ret2
  exact ⟨rfl, M1, E1⟩
theorem load_out {w : World} {p g : Nat} {s : St} {i : Int} (m : Mem w p g s) (h : ¬ s.has i) :
    Calls Try.prog 69 #[.pointer (some ⟨p, 0, none⟩), .int .i64 i] w fun e w' => e = .returned (.tuple #[.int .u64 0, .int .i64 1]) ∧ w = w' := by
  have hm := Lib.hid m
  clear m
  go_enter Try.func69, Try.ntmps69
  go_wp2_with ((go_at_call 33; refine (has_out hm.out h).mono ?_; rintro e w' ⟨rfl, rfl⟩))
  go_ret2
  exact ⟨rfl, rfl⟩
set_option maxHeartbeats 1000000 in
theorem cas_yes {w : World} {p g : Nat} {s : St} {i old : Int} (v : Int) (m : Mem w p g s) (h : s.has i) (hv : s.get i = old) :
    Calls Try.prog 99 #[.pointer (some ⟨p, 0, none⟩), .int .i64 i, .int .u64 old, .int .u64 v] w fun e w' => e = .returned (.tuple #[.bool true, .int .i64 0]) ∧ Mem w' p g (s.hit 3 i v true) ∧ Else [p, g] w w' := by
  have c0 := m.top.cell (i := 0) rfl
  have hh := Lib.hid h
  obtain ⟨h0, h1⟩ := h
  obtain ⟨n, rfl⟩ := Int.eq_ofNat_of_zero_le h0
  have d := m.cell hh.out
  rw [hv] at d
  have hm := Lib.hid m
  clear m hv
  go_enter Try.func99, Try.ntmps99
  go_wp2_with (first
    | (go_at_call 33; refine (has_in hm.out hh.out).mono ?_; rintro e w' ⟨rfl, rfl⟩)
    | (go_at_call 81; refine (stroke_in _ _ _ hm.out hh.out).mono ?_; rintro e w' ⟨rfl, M1, E1⟩))
  go_ret2
  exact ⟨rfl, M1, E1⟩
set_option maxHeartbeats 1000000 in
theorem cas_no {w : World} {p g : Nat} {s : St} {i old : Int} (v : Int) (m : Mem w p g s) (h : s.has i) (hv : s.get i ≠ old) :
    Calls Try.prog 99 #[.pointer (some ⟨p, 0, none⟩), .int .i64 i, .int .u64 old, .int .u64 v] w fun e w' => e = .returned (.tuple #[.bool false, .int .i64 0]) ∧ Mem w' p g (s.hit 3 i (s.get i) false) ∧ Else [p, g] w w' := by
  have c0 := m.top.cell (i := 0) rfl
  have hh := Lib.hid h
  obtain ⟨h0, h1⟩ := h
  obtain ⟨n, rfl⟩ := Int.eq_ofNat_of_zero_le h0
  have d := m.cell hh.out
  have hm := Lib.hid m
  clear m
  go_enter Try.func99, Try.ntmps99
  go_wp2_with (first
    | (go_at_call 33; refine (has_in hm.out hh.out).mono ?_; rintro e w' ⟨rfl, rfl⟩)
    | (go_at_call 81; refine (stroke_in _ _ _ hm.out hh.out).mono ?_; rintro e w' ⟨rfl, M1, E1⟩))
  go_ret2
  exact ⟨rfl, M1, E1⟩
theorem cas_out {w : World} {p g : Nat} {s : St} {i : Int} (old v : Int) (m : Mem w p g s) (h : ¬ s.has i) :
    Calls Try.prog 99 #[.pointer (some ⟨p, 0, none⟩), .int .i64 i, .int .u64 old, .int .u64 v] w fun e w' => e = .returned (.tuple #[.bool false, .int .i64 1]) ∧ w = w' := by
  have hm := Lib.hid m
  clear m
  go_enter Try.func99, Try.ntmps99
  go_wp2_with ((go_at_call 33; refine (has_out hm.out h).mono ?_; rintro e w' ⟨rfl, rfl⟩))
  go_ret2
  exact ⟨rfl, rfl⟩
set_option maxHeartbeats 1000000 in
theorem peek_in {w : World} {p g : Nat} {s : St} {i : Int} (m : Mem w p g s) (h : s.has i) :
    Calls Try.prog 36 #[.pointer (some ⟨p, 0, none⟩), .int .i64 i] w fun e w' => e = .returned (.int .u64 (s.get i)) ∧ w = w' := by
  have c0 := m.top.cell (i := 0) rfl
  have hh := Lib.hid h
  obtain ⟨h0, h1⟩ := h
  obtain ⟨n, rfl⟩ := Int.eq_ofNat_of_zero_le h0
  have d := m.cell hh.out
  have hm := Lib.hid m
  clear m
  go_enter Try.func36, Try.ntmps36
  go_wp2_with ((go_at_call 33; refine (has_in hm.out hh.out).mono ?_; rintro e w' ⟨rfl, rfl⟩))
  go_ret
  exact ⟨rfl, rfl⟩
theorem peek_out {w : World} {p g : Nat} {s : St} {i : Int} (m : Mem w p g s) (h : ¬ s.has i) :
    Calls Try.prog 36 #[.pointer (some ⟨p, 0, none⟩), .int .i64 i] w fun e w' => e = .returned (.int .u64 0) ∧ w = w' := by
  have hm := Lib.hid m
  clear m
  go_enter Try.func36, Try.ntmps36
  go_wp2_with ((go_at_call 33; refine (has_out hm.out h).mono ?_; rintro e w' ⟨rfl, rfl⟩))
  go_ret
  exact ⟨rfl, rfl⟩
theorem Mem.lay {w : World} {p g : Nat} {s : St} (m : Mem w p g s) (n : Nat) (v : Int) : Mem (w.setCell ⟨g, n, none⟩ (.int .u64 v)) p g (s.lay n v) := by
  refine ⟨?_, ?_, m.ne⟩
  · have h := m.top.far (p := ⟨g, n, none⟩) m.ne (.int .u64 v)
    have e : (s.lay n v).xs.length = s.xs.length := by simp [St.lay]
    rw [e]; exact h
  · have h := m.row.set n (.int .u64 v)
    rw [row_set] at h; exact h
set_option maxHeartbeats 1000000 in
theorem lay_in {w : World} {p g : Nat} {s : St} {i : Int} (v : Int) (m : Mem w p g s) (h : s.has i) :
    Calls Try.prog 10 #[.pointer (some ⟨p, 0, none⟩), .int .i64 i, .int .u64 v] w fun e w' => e = .returned (.int .i64 0) ∧ Mem w' p g (s.lay i v) ∧ Else [p, g] w w' := by
  have c0 := m.top.cell (i := 0) rfl
  have fg := m.row.frozen
  have hh := Lib.hid h
  obtain ⟨h0, h1⟩ := h
  obtain ⟨n, rfl⟩ := Int.eq_ofNat_of_zero_le h0
  have d := m.cell hh.out
  have hm := Lib.hid m
  clear m
  go_enter Try.func10, Try.ntmps10
  go_wp2_with ((go_at_call 33; refine (has_in hm.out hh.out).mono ?_; rintro e w' ⟨rfl, rfl⟩))
  go_ret
  exact ⟨rfl, hm.out.lay n v, (Else.refl [p, g] w).set (.inl (by simp)) _⟩
theorem lay_out {w : World} {p g : Nat} {s : St} {i : Int} (v : Int) (m : Mem w p g s) (h : ¬ s.has i) :
    Calls Try.prog 10 #[.pointer (some ⟨p, 0, none⟩), .int .i64 i, .int .u64 v] w fun e w' => e = .returned (.int .i64 1) ∧ w = w' := by
  have hm := Lib.hid m
  clear m
  go_enter Try.func10, Try.ntmps10
  go_wp2_with ((go_at_call 33; refine (has_out hm.out h).mono ?_; rintro e w' ⟨rfl, rfl⟩))
  go_ret
  exact ⟨rfl, rfl⟩
theorem count_any {w : World} {p g : Nat} {s : St} (m : Mem w p g s) :
    Calls Try.prog 18 #[.pointer (some ⟨p, 0, none⟩)] w fun e w' => e = .returned (.int .i64 s.c) ∧ w = w' := by
  have c1 := m.cells.2.1
  go_enter Try.func18, Try.ntmps18
  go_wp2
  go_ret
  exact ⟨rfl, rfl⟩
theorem len_any {w : World} {p g : Nat} {s : St} (m : Mem w p g s) :
    Calls Try.prog 50 #[.pointer (some ⟨p, 0, none⟩)] w fun e w' => e = .returned (.int .i64 s.xs.length) ∧ w = w' := by
  have c0 := m.cells.1
  go_enter Try.func50, Try.ntmps50
  go_wp2
  go_ret
  exact ⟨rfl, rfl⟩
theorem made_row (n : Nat) : madeCells (Value.int .u64 0).cells (n * 1) = row (List.replicate n 0) := by
  apply Array.ext
  · simp [madeCells, row]
  · intro i h1 h2
    simp [madeCells, row, Value.cells, Nat.mod_one]
theorem info_u64 : (Try.prog.info? 41).map (fun i => (i.zero, i.size, i.bytes)) = some (some (.int .u64 0), 1, 8) := by kernel_rfl
theorem run_row (n : Nat) (h : n ≤ 8388608) (w : World) : (Instr.makeSlice 67 (.int .i64 (n : Int)) (.int .i64 (n : Int))).run Try.prog w = .ok (.slice (some ⟨w.heap.size, 0, none⟩) n n) (w.alloc (.cells (row (List.replicate n 0)) 41)) := by
  obtain ⟨i, hi, hz0, hz1, hz2⟩ := info_parts info_u64
  have := run_make (P := Try.prog) w 67 41 i _ Try.underlying67 hi hz0 .i64 .i64 n n (by omega) (by omega) (by rw [hz2]; omega) (by omega)
  rw [this, hz1, made_row]; rfl
set_option maxHeartbeats 1000000 in
theorem new_in (n : Nat) (h0 : 1 ≤ n) (h1 : n ≤ 8388608) (w : World) :
    Calls Try.prog 14 #[.int .i64 (n : Int)] w fun e w' => e = .returned (.tuple #[.pointer (some ⟨w.heap.size + 1, 0, none⟩), .int .i64 0]) ∧ Mem w' (w.heap.size + 1) w.heap.size (St.zero n) ∧ Up w w' := by
  have hr := run_row n h1
  have b0 : (1 : Int) ≤ (n : Int) := by omega
  have b1 : (n : Int) ≤ 8388608 := by omega
  go_enter Try.func14, Try.ntmps14
  go_wp2
  go_ret2
  refine ⟨rfl, ⟨?_, ?_, by omega⟩, ((Up.refl _).then_alloc _).then_alloc _⟩
  · have h := Whole.new (w.alloc (.cells (row (List.replicate n 0)) 41)) 87 #[.slice (some ⟨w.heap.size, 0, none⟩) (St.zero n).xs.length (St.zero n).xs.length, .int .i64 0, .int .i64 0, .int .i64 0, .int .u64 0, .int .u64 0, .bool false]
    have e : (w.alloc (.cells (row (List.replicate n 0)) 41)).heap.size = w.heap.size + 1 := by simp
    rw [e] at h
    simpa [St.zero] using h
  · exact (Whole.new w 41 (row (List.replicate n 0))).alloc _
theorem new_out {i : Int} (h : i < 1 ∨ 8388608 < i) (w : World) :
    Calls Try.prog 14 #[.int .i64 i] w fun e w' => e = .returned (.tuple #[.pointer none, .int .i64 1]) ∧ w = w' := by
  by_cases h0 : i < 1
  · go_enter Try.func14, Try.ntmps14
    go_wp2
    go_ret2
    exact ⟨rfl, rfl⟩
  · have h1 : 8388608 < i := by omega
    go_enter Try.func14, Try.ntmps14
    go_wp2
    go_ret2
    exact ⟨rfl, rfl⟩
end Go.Proofs.Ytkopplnjomkleaa

/-
  The statements' own first of layer 5; the contracts of Cells with the answer and what is left told by equations.
-/
namespace Go.Proofs.Ytkopplnjomkleaa
open Go.RowKit

theorem new_is {n : Nat} {i : Int} (hi : i = n) (h0 : 1 ≤ n) (h1 : n ≤ 8388608) (w : World) :
    Calls Try.prog 14 #[.int .i64 i] w fun e w' => e = .returned (.tuple #[.pointer (some ⟨w.heap.size + 1, 0, none⟩), .int .i64 0]) ∧ Mem w' (w.heap.size + 1) w.heap.size (St.zero n) ∧ Up w w' := by
  subst hi; exact new_in n h0 h1 w
theorem wrap_small {n : Int} (h0 : 0 ≤ n) (h1 : n < 18446744073709551616) : IntKind.u64.wrap n = n := IntWalk.u64_in n (by omega)

theorem first_s1 : (St.zero 2).hit 4 1 (IntKind.u64.wrap (0 + 5)) true = ⟨[0, 5], 1, 4, 1, 0, 5, true⟩ := by
  rw [wrap_small (by decide) (by decide)]
  unfold St.hit
  rw [IntWalk.wrap64_in _ (by decide)]; rfl
theorem first_s2 : (⟨[0, 5], 1, 4, 1, 0, 5, true⟩ : St).hit 4 1 (IntKind.u64.wrap (5 + 3)) true = ⟨[0, 8], 2, 4, 1, 5, 8, true⟩ := by
  rw [wrap_small (by decide) (by decide)]
  unfold St.hit
  rw [IntWalk.wrap64_in _ (by decide)]; rfl
theorem count_to {w : World} {p g : Nat} {s : St} {x : Int} (m : Mem w p g s) (hx : s.c = x) :
    Calls Try.prog 18 #[.pointer (some ⟨p, 0, none⟩)] w fun e w' => e = .returned (.int .i64 x) ∧ w = w' := by
  subst hx; exact count_any m
theorem len_to {w : World} {p g : Nat} {s : St} {x : Int} (m : Mem w p g s) (hx : (s.xs.length : Int) = x) :
    Calls Try.prog 50 #[.pointer (some ⟨p, 0, none⟩)] w fun e w' => e = .returned (.int .i64 x) ∧ w = w' := by
  subst hx; exact len_any m
theorem peek_to {w : World} {p g : Nat} {s : St} {i x : Int} (m : Mem w p g s) (h : s.has i) (hx : s.get i = x) :
    Calls Try.prog 36 #[.pointer (some ⟨p, 0, none⟩), .int .i64 i] w fun e w' => e = .returned (.int .u64 x) ∧ w = w' := by
  subst hx; exact peek_in m h
theorem load_to {w : World} {p g : Nat} {s s' : St} {i x : Int} (m : Mem w p g s) (h : s.has i) (hx : s.get i = x) (hs : s.hit 1 i x true = s') :
    Calls Try.prog 69 #[.pointer (some ⟨p, 0, none⟩), .int .i64 i] w fun e w' => e = .returned (.tuple #[.int .u64 x, .int .i64 0]) ∧ Mem w' p g s' ∧ Else [p, g] w w' := by
  subst hx hs; exact load_in m h
theorem one_is : (1 : Int) = ((1 : Nat) : Int) := rfl
theorem five_is : (5 : Int) = ((5 : Nat) : Int) := rfl
theorem zero_c (n : Nat) : (St.zero n).c = 0 := rfl
theorem two_is : (2 : Int) = ((2 : Nat) : Int) := rfl
theorem first_h1 : (St.zero 2).has 1 := by constructor <;> decide
theorem first_h2 : (⟨[0, 5], 1, 4, 1, 0, 5, true⟩ : St).has 1 := by constructor <;> decide
theorem first_g1 : (St.zero 2).get 1 = 0 := rfl
theorem first_g2 : (⟨[0, 5], 1, 4, 1, 0, 5, true⟩ : St).get 1 = 5 := rfl
theorem first_l : (⟨[0, 8], 2, 4, 1, 5, 8, true⟩ : St).last = .agg #[.int .i64 4, .int .i64 1, .int .u64 5, .int .u64 8, .bool true] := rfl
theorem first_c : (⟨[0, 8], 2, 4, 1, 5, 8, true⟩ : St).c = 2 := rfl
theorem first_n : ((⟨[0, 8], 2, 4, 1, 5, 8, true⟩ : St).xs.length : Int) = 2 := rfl
end Go.Proofs.Ytkopplnjomkleaa

/-
  Plain facts on words of 64 bits: the model's integers of kind u64 as bit vectors. No program is named here.
-/
namespace Go.Proofs.Ytkopplnjomkleaa.W64

/-- A word's number. -/
def U (x : BitVec 64) : Int := (x.toNat : Int)

theorem U_nonneg (x : BitVec 64) : 0 ≤ U x := Int.natCast_nonneg _
theorem U_lt (x : BitVec 64) : U x < 18446744073709551616 := by
  have := x.isLt; unfold U; omega
theorem U_toNat (x : BitVec 64) : (U x).toNat = x.toNat := Int.toNat_natCast _
theorem U_inj {x y : BitVec 64} : U x = U y ↔ x = y := by
  unfold U; constructor
  · intro h; exact BitVec.eq_of_toNat_eq (by omega)
  · intro h; rw [h]
theorem U_beq (x y : BitVec 64) : (U x == U y) = (x == y) := by
  rw [Bool.eq_iff_iff, beq_iff_eq, beq_iff_eq]; exact U_inj
theorem U_bne (x y : BitVec 64) : (U x != U y) = (x != y) := by
  unfold bne; rw [U_beq]
theorem U_zero : U 0 = 0 := rfl
theorem U_one : U 1 = 1 := rfl
theorem U_ofNat (n : Nat) (h : n < 18446744073709551616) : U (BitVec.ofNat 64 n) = n := by
  unfold U; rw [BitVec.toNat_ofNat, Nat.mod_eq_of_lt h]
theorem U_le {x y : BitVec 64} : U x ≤ U y ↔ x ≤ y := by
  unfold U; rw [BitVec.le_def]; omega
/-- Each number of the kind is a word's. -/
theorem U_of (n : Int) (h : (Lit.int .u64 n).wf = true) : ∃ x : BitVec 64, n = U x := by
  have h' : 0 ≤ n ∧ n < 18446744073709551616 := by
    simp [Lit.wf, IntKind.min, IntKind.max, IntKind.bits, IntKind.signed] at h
    omega
  exact ⟨BitVec.ofNat 64 n.toNat, by rw [U_ofNat _ (by omega)]; omega⟩

theorem ofInt_U (x : BitVec 64) : BitVec.ofInt 64 (U x) = x := by
  unfold U; rw [BitVec.ofInt_natCast, BitVec.ofNat_toNat, BitVec.setWidth_eq]
theorem wrap_U (x : BitVec 64) : IntKind.u64.wrap (U x) = U x := by
  have := U_nonneg x; have := U_lt x
  rw [IntKind.wrap_u64]; omega

theorem and_U (x y : BitVec 64) : bits .and .u64 (U x) (U y) = U (x &&& y) := by
  show IntKind.u64.wrap (U (BitVec.ofInt 64 (U x) &&& BitVec.ofInt 64 (U y))) = _
  rw [ofInt_U, ofInt_U, wrap_U]
theorem or_U (x y : BitVec 64) : bits .or .u64 (U x) (U y) = U (x ||| y) := by
  show IntKind.u64.wrap (U (BitVec.ofInt 64 (U x) ||| BitVec.ofInt 64 (U y))) = _
  rw [ofInt_U, ofInt_U, wrap_U]
theorem xor_U (x y : BitVec 64) : bits .xor .u64 (U x) (U y) = U (x ^^^ y) := by
  show IntKind.u64.wrap (U (BitVec.ofInt 64 (U x) ^^^ BitVec.ofInt 64 (U y))) = _
  rw [ofInt_U, ofInt_U, wrap_U]
theorem andNot_U (x y : BitVec 64) : bits .andNot .u64 (U x) (U y) = U (x &&& ~~~y) := by
  show IntKind.u64.wrap (U (BitVec.ofInt 64 (U x) &&& ~~~(BitVec.ofInt 64 (U y)))) = _
  rw [ofInt_U, ofInt_U, wrap_U]
theorem add_U (x y : BitVec 64) : IntKind.u64.wrap (U x + U y) = U (x + y) := by
  rw [IntKind.wrap_u64]; unfold U; rw [BitVec.toNat_add]; omega
theorem sub_U (x y : BitVec 64) : IntKind.u64.wrap (U x - U y) = U (x - y) := by
  have := x.isLt; have := y.isLt
  rw [IntKind.wrap_u64]; unfold U; rw [BitVec.toNat_sub]; omega
theorem mul_U (x y : BitVec 64) : IntKind.u64.wrap (U x * U y) = U (x * y) := by
  rw [IntKind.wrap_u64]; unfold U; rw [BitVec.toNat_mul, ← Int.natCast_mul]; omega
theorem shl_U (x : BitVec 64) (n : Nat) : IntKind.u64.wrap (U x * 2 ^ n) = U (x <<< n) := by
  rw [IntKind.wrap_u64]; unfold U
  rw [BitVec.toNat_shiftLeft, Nat.shiftLeft_eq]
  have : ((x.toNat : Int) * 2 ^ n) = ((x.toNat * 2 ^ n : Nat) : Int) := by simp
  rw [this]; omega
theorem shr_U (x : BitVec 64) (n : Nat) : U x / 2 ^ n = U (x >>> n) := by
  unfold U
  rw [BitVec.toNat_ushiftRight, Nat.shiftRight_eq_div_pow]
  simp
theorem shl_min (x : BitVec 64) (n : Nat) : x <<< (min n 64) = x <<< n := by
  by_cases h : n ≤ 64
  · rw [Nat.min_eq_left h]
  · rw [Nat.min_eq_right (by omega), BitVec.shiftLeft_eq_zero (Nat.le_refl _), BitVec.shiftLeft_eq_zero (by omega)]
theorem shr_min (x : BitVec 64) (n : Nat) : x >>> (min n 64) = x >>> n := by
  by_cases h : n ≤ 64
  · rw [Nat.min_eq_left h]
  · rw [Nat.min_eq_right (by omega), BitVec.ushiftRight_eq_zero (Nat.le_refl _), BitVec.ushiftRight_eq_zero (by omega)]
end Go.Proofs.Ytkopplnjomkleaa.W64

/-
  Fields of a word, as bit vectors: what masks, fits, gets and puts come to. Plain facts: no program is named here.
-/
namespace Go.Proofs.Ytkopplnjomkleaa.W64

/-- A width, cut to from 0 to 64. -/
def cutW (n : Int) : Nat := if n < 0 then 0 else if 64 < n then 64 else n.toNat
theorem cutW_le (n : Int) : cutW n ≤ 64 := by unfold cutW; split <;> (try split) <;> omega
theorem cutW_in {n : Int} (h0 : 0 ≤ n) (h1 : n ≤ 64) : cutW n = n.toNat := by unfold cutW; rw [if_neg (by omega), if_neg (by omega)]
def mask (n : Int) : BitVec 64 := ((1#64) <<< cutW n) - 1#64

theorem mask_toNat (n : Int) : (mask n).toNat = 2 ^ cutW n - 1 := by
  have h := cutW_le n
  unfold mask
  generalize cutW n = k at *
  rw [BitVec.toNat_sub, BitVec.toNat_shiftLeft, Nat.shiftLeft_eq]
  have h1 : (1#64).toNat = 1 := rfl
  rw [h1, Nat.one_mul]
  by_cases e : k = 64
  · subst e; decide
  · have hk : 2 ^ k < 2 ^ 64 := Nat.pow_lt_pow_right (by decide) (by omega)
    have hp : 0 < 2 ^ k := Nat.two_pow_pos k
    omega
theorem mask_bit (n : Int) (i : Nat) : (mask n).getLsbD i = decide (i < cutW n) := by
  rw [BitVec.getLsbD, mask_toNat, Nat.testBit_two_pow_sub_one]

def fieldB (a n : Int) : Bool := decide (0 ≤ n) && (decide (n ≤ 64) && (decide (0 ≤ a) && decide (a ≤ 64 - n)))
theorem fieldB_iff {a n : Int} : fieldB a n = true ↔ 0 ≤ n ∧ n ≤ 64 ∧ 0 ≤ a ∧ a ≤ 64 - n := by
  unfold fieldB; simp
def fitsB (v : BitVec 64) (n : Int) : Bool := (v &&& ~~~(mask n)) == 0#64
def getW (x : BitVec 64) (a n : Int) : BitVec 64 := if fieldB a n then (x >>> a.toNat) &&& mask n else 0#64
def putB (a n : Int) (v : BitVec 64) : Bool := fieldB a n && fitsB v n
def putV (x : BitVec 64) (a n : Int) (v : BitVec 64) : BitVec 64 := (x &&& ~~~(mask n <<< a.toNat)) ||| (v <<< a.toNat)
def putW (x : BitVec 64) (a n : Int) (v : BitVec 64) : BitVec 64 := if putB a n v then putV x a n v else 0#64

theorem fitsB_iff {v : BitVec 64} {n : Int} : fitsB v n = true ↔ ∀ i, cutW n ≤ i → v.getLsbD i = false := by
  unfold fitsB
  rw [beq_iff_eq]
  constructor
  · intro h i hi
    have := congrArg (fun x => BitVec.getLsbD x i) h
    simp only [BitVec.getLsbD_and, BitVec.getLsbD_not, mask_bit, BitVec.getLsbD_zero] at this
    by_cases h64 : i < 64
    · simpa [h64, show ¬ i < cutW n by omega] using this
    · exact BitVec.getLsbD_of_ge _ _ (by omega)
  · intro h
    apply BitVec.eq_of_getLsbD_eq
    intro i hi
    simp only [BitVec.getLsbD_and, BitVec.getLsbD_not, mask_bit, BitVec.getLsbD_zero]
    by_cases hc : i < cutW n
    · simp [hc]
    · simp [h i (by omega)]
theorem fitsB_le (v : BitVec 64) (n : Int) : fitsB v n = decide (v ≤ mask n) := by
  rw [Bool.eq_iff_iff, fitsB_iff, decide_eq_true_iff, BitVec.le_def, mask_toNat]
  have hp : 0 < 2 ^ cutW n := Nat.two_pow_pos _
  constructor
  · intro h
    have : v.toNat < 2 ^ cutW n := Nat.lt_pow_two_of_testBit _ fun i hi => h i hi
    omega
  · intro h i hi
    have : v.toNat < 2 ^ cutW n := by omega
    exact Nat.testBit_lt_two_pow (Nat.lt_of_lt_of_le this (Nat.pow_le_pow_right (by decide) hi))
theorem fitsB_and (v : BitVec 64) (n : Int) : fitsB (v &&& mask n) n = true := by
  rw [fitsB_iff]; intro i hi
  rw [BitVec.getLsbD_and, mask_bit, decide_eq_false (by omega), Bool.and_false]

theorem getW_bit {x : BitVec 64} {a n : Int} (h : fieldB a n = true) (i : Nat) : (getW x a n).getLsbD i = (decide (i < n.toNat) && x.getLsbD (a.toNat + i)) := by
  obtain ⟨h0, h1, _, _⟩ := fieldB_iff.1 h
  unfold getW
  rw [if_pos h, BitVec.getLsbD_and, BitVec.getLsbD_ushiftRight, mask_bit, cutW_in h0 h1, Bool.and_comm]
theorem putV_bit {x : BitVec 64} {a n : Int} {v : BitVec 64} (h : putB a n v = true) (i : Nat) :
    (putV x a n v).getLsbD i = if a.toNat ≤ i ∧ i < a.toNat + n.toNat then v.getLsbD (i - a.toNat) else x.getLsbD i := by
  unfold putB at h
  rw [Bool.and_eq_true] at h
  obtain ⟨hf, hv⟩ := h
  obtain ⟨h0, h1, h2, h3⟩ := fieldB_iff.1 hf
  rw [fitsB_iff, cutW_in h0 h1] at hv
  unfold putV
  by_cases h64 : i < 64
  · simp only [BitVec.getLsbD_or, BitVec.getLsbD_and, BitVec.getLsbD_not, BitVec.getLsbD_shiftLeft, mask_bit, cutW_in h0 h1, h64, decide_true, Bool.true_and]
    by_cases ha : i < a.toNat
    · simp [ha, show ¬ (a.toNat ≤ i) by omega]
    · by_cases hb : i < a.toNat + n.toNat
      · simp [ha, show a.toNat ≤ i by omega, hb, show i - a.toNat < n.toNat by omega]
      · simp [ha, hb, show ¬ (i - a.toNat < n.toNat) by omega, hv (i - a.toNat) (by omega)]
  · rw [BitVec.getLsbD_of_ge _ _ (by omega), if_neg (by omega), BitVec.getLsbD_of_ge _ _ (by omega)]

theorem mask_twice (n : Int) (h0 : 0 ≤ n) (h1 : n < 64) : IntKind.u64.wrap (IntKind.u64.wrap (2 * U (mask n)) + 1) = U (mask (n + 1)) := by
  have hk : 2 ^ n.toNat ≤ 2 ^ 63 := Nat.pow_le_pow_right (by decide) (by omega)
  have hp : 0 < 2 ^ n.toNat := Nat.two_pow_pos _
  rw [IntKind.wrap_u64, IntKind.wrap_u64]
  unfold U
  rw [mask_toNat, mask_toNat, cutW_in h0 (by omega), cutW_in (by omega) (by omega), show (n + 1).toNat = n.toNat + 1 by omega, Nat.pow_succ]
  omega
theorem mask_zero {n : Int} (h : n ≤ 0) : (0 : Int) = U (mask n) := by
  have e : cutW n = 0 := by unfold cutW; split <;> (try split) <;> omega
  unfold U; rw [mask_toNat, e]; rfl
theorem mask_full {n : Int} (h : 64 ≤ n) : (18446744073709551615 : Int) = U (mask n) := by
  have e : cutW n = 64 := by unfold cutW; split <;> (try split) <;> omega
  unfold U; rw [mask_toNat, e]; rfl
theorem fitsB_full {v : BitVec 64} {n : Int} (h : 64 ≤ n) : fitsB v n = true := by
  have e : cutW n = 64 := by unfold cutW; split <;> (try split) <;> omega
  rw [fitsB_iff, e]; intro i hi; exact BitVec.getLsbD_of_ge _ _ hi
theorem fitsB_U (v : BitVec 64) (n : Int) : fitsB v n = decide (U v ≤ U (mask n)) := by
  rw [fitsB_le]; exact decide_eq_decide.2 U_le.symm

/-! ### Bit by bit -/
theorem one_bit (x : BitVec 64) (j : Nat) : bits .and .u64 (U x / 2 ^ j) 1 = if x.getLsbD j = true then 1 else 0 := by
  have e1 : (1 : Int) = U 1#64 := rfl
  have key : (x >>> j) &&& 1#64 = if x.getLsbD j = true then 1#64 else 0#64 := by
    apply BitVec.eq_of_getLsbD_eq
    intro i hi
    rw [BitVec.getLsbD_and, BitVec.getLsbD_ushiftRight, BitVec.getLsbD_one]
    by_cases h : i = 0
    · subst h
      cases hx : x.getLsbD j <;> simp
    · cases hx : x.getLsbD j <;> simp [h]
  rw [e1, shr_U, and_U, key]
  cases hx : x.getLsbD j <;> rfl
theorem one_bit_eq (x : BitVec 64) (j : Nat) : (bits .and .u64 (U x / 2 ^ j) 1 == 1) = x.getLsbD j := by
  rw [one_bit]; cases x.getLsbD j <;> rfl
theorem one_bit_ne (x y : BitVec 64) (i j : Nat) : (bits .and .u64 (U x / 2 ^ i) 1 != bits .and .u64 (U y / 2 ^ j) 1) = (x.getLsbD i != y.getLsbD j) := by
  rw [one_bit, one_bit]; cases x.getLsbD i <;> cases y.getLsbD j <;> rfl
theorem one_shl (k : Nat) : IntKind.u64.wrap (2 ^ k) = U (1#64 <<< k) := by
  have h := shl_U 1#64 k
  have e1 : U 1#64 = 1 := rfl
  rwa [e1, Int.one_mul] at h

/-- The k lowest bits of a field. -/
def getTo (x : BitVec 64) (a : Nat) (k : Nat) : BitVec 64 := (x >>> a) &&& mask k
theorem getTo_bit (x : BitVec 64) (a k i : Nat) (h : k ≤ 64) : (getTo x a k).getLsbD i = (x.getLsbD (a + i) && decide (i < k)) := by
  unfold getTo
  rw [BitVec.getLsbD_and, BitVec.getLsbD_ushiftRight, mask_bit, cutW_in (by omega) (by omega), Int.toNat_natCast]
theorem getTo_zero (x : BitVec 64) (a : Nat) : U (getTo x a 0) = 0 := by
  have : getTo x a 0 = 0#64 := by
    apply BitVec.eq_of_getLsbD_eq; intro i hi; rw [getTo_bit _ _ _ _ (by omega)]; simp
  rw [this]; rfl
theorem add_or {x y : BitVec 64} (h : x &&& y = 0#64) : x + y = x ||| y := BitVec.add_eq_or_of_and_eq_zero x y h
theorem getTo_one (x : BitVec 64) (a k : Nat) (h : k < 64) (hb : x.getLsbD (a + k) = true) :
    IntKind.u64.wrap (U (getTo x a k) + IntKind.u64.wrap (2 ^ k)) = U (getTo x a (k + 1)) := by
  rw [one_shl, add_U, U_inj, add_or]
  · apply BitVec.eq_of_getLsbD_eq
    intro i hi
    rw [BitVec.getLsbD_or, getTo_bit _ _ _ _ (by omega), getTo_bit _ _ _ _ (by omega), BitVec.getLsbD_shiftLeft, BitVec.getLsbD_one]
    by_cases e : i = k
    · subst e; simp [hb, h]
    · by_cases e2 : i < k
      · simp [e2, show i < k + 1 by omega]
      · simp [e2, show ¬ i < k + 1 by omega]; omega
  · apply BitVec.eq_of_getLsbD_eq
    intro i hi
    rw [BitVec.getLsbD_and, getTo_bit _ _ _ _ (by omega), BitVec.getLsbD_shiftLeft]
    by_cases e2 : i < k
    · simp [e2]
    · simp [e2]
theorem getTo_none (x : BitVec 64) (a k : Nat) (h : k < 64) (hb : x.getLsbD (a + k) = false) : getTo x a k = getTo x a (k + 1) := by
  apply BitVec.eq_of_getLsbD_eq
  intro i hi
  rw [getTo_bit _ _ _ _ (by omega), getTo_bit _ _ _ _ (by omega)]
  by_cases e : i = k
  · subst e; simp [hb]
  · have : i < k ↔ i < k + 1 := by omega
    simp [this]
theorem getTo_all (x : BitVec 64) (a n : Nat) (h : fieldB a n = true) : getTo x a n = getW x a n := by
  unfold getTo getW; rw [if_pos h, Int.toNat_natCast]

/-- A word with the k lowest bits of a number in a field. -/
def putTo (x : BitVec 64) (a : Nat) (v : BitVec 64) (k : Nat) : BitVec 64 := putV x a k (v &&& mask k)
theorem putTo_bit (x : BitVec 64) (a : Nat) (v : BitVec 64) (k i : Nat) (h : a + k ≤ 64) :
    (putTo x a v k).getLsbD i = if a ≤ i ∧ i < a + k then v.getLsbD (i - a) else x.getLsbD i := by
  have hp : putB a k (v &&& mask k) = true := by
    unfold putB; rw [fitsB_and, fieldB_iff.2 ⟨by omega, by omega, by omega, by omega⟩]; rfl
  unfold putTo
  rw [putV_bit hp, Int.toNat_natCast, Int.toNat_natCast, BitVec.getLsbD_and, mask_bit, cutW_in (by omega) (by omega), Int.toNat_natCast]
  split
  · rw [decide_eq_true (by omega), Bool.and_true]
  · rfl
theorem putTo_zero (x : BitVec 64) (a : Nat) (v : BitVec 64) (h : a ≤ 64) : putTo x a v 0 = x := by
  apply BitVec.eq_of_getLsbD_eq; intro i hi; rw [putTo_bit _ _ _ _ _ (by omega), if_neg (by omega)]
theorem putTo_flip (x : BitVec 64) (a : Nat) (v : BitVec 64) (k : Nat) (h : a + k < 64) (hb : ((putTo x a v k).getLsbD (a + k) != v.getLsbD k) = true) :
    bits .xor .u64 (U (putTo x a v k)) (IntKind.u64.wrap (2 ^ (a + k))) = U (putTo x a v (k + 1)) := by
  rw [putTo_bit _ _ _ _ _ (by omega), if_neg (by omega)] at hb
  rw [one_shl, xor_U, U_inj]
  apply BitVec.eq_of_getLsbD_eq
  intro i hi
  rw [BitVec.getLsbD_xor, putTo_bit _ _ _ _ _ (by omega), putTo_bit _ _ _ _ _ (by omega), BitVec.getLsbD_shiftLeft, BitVec.getLsbD_one]
  by_cases e : i = a + k
  · subst e
    rw [if_neg (by omega), if_pos (by omega), show a + k - a = k by omega]
    rw [show a + k - (a + k) = 0 by omega]
    generalize x.getLsbD (a + k) = p at *
    generalize v.getLsbD k = q at *
    cases p <;> cases q <;> simp [h] at hb ⊢
  · have e2 : (a ≤ i ∧ i < a + (k + 1)) ↔ (a ≤ i ∧ i < a + k) := by omega
    simp only [e2]
    by_cases e3 : i < a + k
    · simp [e3]
    · simp [show ¬ (i - (a + k) = 0) by omega]
theorem putTo_keep (x : BitVec 64) (a : Nat) (v : BitVec 64) (k : Nat) (h : a + k < 64) (hb : ((putTo x a v k).getLsbD (a + k) != v.getLsbD k) = false) :
    putTo x a v k = putTo x a v (k + 1) := by
  rw [putTo_bit _ _ _ _ _ (by omega), if_neg (by omega)] at hb
  apply BitVec.eq_of_getLsbD_eq
  intro i hi
  rw [putTo_bit _ _ _ _ _ (by omega), putTo_bit _ _ _ _ _ (by omega)]
  by_cases e : i = a + k
  · subst e
    rw [if_neg (by omega), if_pos (by omega), show a + k - a = k by omega]
    simpa using hb
  · have e2 : (a ≤ i ∧ i < a + (k + 1)) ↔ (a ≤ i ∧ i < a + k) := by omega
    simp only [e2]
theorem and_mask_of_fits {v : BitVec 64} {n : Int} (h : fitsB v n = true) : v &&& mask n = v := by
  rw [fitsB_iff] at h
  apply BitVec.eq_of_getLsbD_eq
  intro i hi
  rw [BitVec.getLsbD_and, mask_bit]
  by_cases e : i < cutW n
  · simp [e]
  · rw [h i (by omega), Bool.false_and]
theorem putTo_all (x : BitVec 64) (a n : Nat) (v : BitVec 64) (h : fitsB v n = true) : putTo x a v n = putV x a n v := by
  unfold putTo; rw [and_mask_of_fits h]
end Go.Proofs.Ytkopplnjomkleaa.W64
