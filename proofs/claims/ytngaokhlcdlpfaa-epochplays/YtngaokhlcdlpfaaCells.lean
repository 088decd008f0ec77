/-
  Package cells: what a memory is, told by a list of words and the last access (St); Mem: it lies in the world; each method's contract.
-/
import Derived.Test.YtngaokhlcdlpfaaNum
import Derived.Test.YtngaokhlcdlpfaaMem
import Derived.OwnWalk
namespace Go.Proofs.Ytngaokhlcdlpfaa
open Go.RowKit

/-- A memory: what its cells hold, how many accesses there were, the last one. -/
structure St where
  xs : List Int
  c : Int
  k : Int
  a : Int
  o : Int
  v : Int
  y : Bool
def St.zero (n : Nat) : St := ⟨List.replicate n 0, 0, 0, 0, 0, 0, false⟩
def St.get (s : St) (i : Int) : Int := s.xs.getD i.toNat 0
def St.hit (s : St) (k i v : Int) (y : Bool) : St := ⟨s.xs.set i.toNat v, wrap64 (s.c + 1), k, i, s.get i, v, y⟩
def St.lay (s : St) (i v : Int) : St := { s with xs := s.xs.set i.toNat v }
def St.last (s : St) : Value := .agg #[.int .i64 s.k, .int .i64 s.a, .int .u64 s.o, .int .u64 s.v, .bool s.y]
def St.has (s : St) (i : Int) : Prop := 0 ≤ i ∧ i < s.xs.length
def row (xs : List Int) : Array Value := (xs.map (Value.int .u64)).toArray
/-- The memory s lies at p, its cells at g. -/
structure Mem (w : World) (p g : Nat) (s : St) : Prop where
  top : Whole w p 82 #[.slice (some ⟨g, 0, none⟩) s.xs.length s.xs.length, .int .i64 s.c, .int .i64 s.k, .int .i64 s.a, .int .u64 s.o, .int .u64 s.v, .bool s.y]
  row : Whole w g 22 (row s.xs)
  ne : p ≠ g

theorem row_get {xs : List Int} {i : Nat} (h : i < xs.length) : (row xs)[i]? = some (.int .u64 (xs.getD i 0)) := by
  simp [row, List.getD, h]
theorem row_set (xs : List Int) (i : Nat) (v : Int) : (row xs).setIfInBounds i (.int .u64 v) = row (xs.set i v) := by
  simp [row, List.map_set]
theorem Mem.up {w w' : World} {p g : Nat} {s : St} (h : Mem w p g s) (u : Up w w') : Mem w' p g s := ⟨h.top.up u, h.row.up u, h.ne⟩
theorem Mem.else {w w' : World} {p g : Nat} {s : St} {l : List Nat} (h : Mem w p g s) (u : Else l w w') (hp : p ∉ l) (hg : g ∉ l) : Mem w' p g s := ⟨u.whole h.top hp, u.whole h.row hg, h.ne⟩

set_option maxHeartbeats 400000 in
theorem has_in {w : World} {p g : Nat} {s : St} {i : Int} (m : Mem w p g s) (h : s.has i) :
    Calls Try.prog 32 #[.pointer (some ⟨p, 0, none⟩), .int .i64 i] w fun e w' => e = .returned (.bool true) ∧ w = w' := by
  have c0 := m.top.cell (i := 0) rfl
  obtain ⟨h0, h1⟩ := h
  go_enter Try.func32, Try.ntmps32
  go_wp2
  go_ret
  exact ⟨rfl, rfl⟩
set_option maxHeartbeats 400000 in
theorem has_out {w : World} {p g : Nat} {s : St} {i : Int} (m : Mem w p g s) (h : ¬ s.has i) :
    Calls Try.prog 32 #[.pointer (some ⟨p, 0, none⟩), .int .i64 i] w fun e w' => e = .returned (.bool false) ∧ w = w' := by
  have c0 := m.top.cell (i := 0) rfl
  by_cases h0 : 0 ≤ i
  · have h1 : ¬ i < s.xs.length := fun h' => h ⟨h0, h'⟩
    go_enter Try.func32, Try.ntmps32
    go_wp2
    go_ret
    exact ⟨rfl, rfl⟩
  · go_enter Try.func32, Try.ntmps32
    go_wp2
    go_ret
    exact ⟨rfl, rfl⟩
theorem Mem.cells {w : World} {p g : Nat} {s : St} (m : Mem w p g s) :
    w.cell? ⟨p, 0, none⟩ = some (.slice (some ⟨g, 0, none⟩) s.xs.length s.xs.length) ∧ w.cell? ⟨p, 1, none⟩ = some (.int .i64 s.c) ∧ w.cell? ⟨p, 2, none⟩ = some (.int .i64 s.k) ∧
    w.cell? ⟨p, 3, none⟩ = some (.int .i64 s.a) ∧ w.cell? ⟨p, 4, none⟩ = some (.int .u64 s.o) ∧ w.cell? ⟨p, 5, none⟩ = some (.int .u64 s.v) ∧ w.cell? ⟨p, 6, none⟩ = some (.bool s.y) :=
  ⟨m.top.cell rfl, m.top.cell rfl, m.top.cell rfl, m.top.cell rfl, m.top.cell rfl, m.top.cell rfl, m.top.cell rfl⟩
theorem Mem.cell {w : World} {p g : Nat} {s : St} (m : Mem w p g s) {n : Nat} (h : s.has n) : w.cell? ⟨g, n, none⟩ = some (.int .u64 (s.get n)) :=
  m.row.cell (row_get (by have := h.2; omega))
/-- What a stroke leaves. -/
theorem Mem.hit {w : World} {p g : Nat} {s : St} (m : Mem w p g s) (k : Int) (n : Nat) (v x : Int) (y : Bool) (hx : x = s.get n) :
    Mem (((((((w.setCell ⟨p, 2, none⟩ (.int .i64 k)).setCell ⟨p, 3, none⟩ (.int .i64 n)).setCell ⟨p, 4, none⟩ (.int .u64 x)).setCell ⟨p, 5, none⟩ (.int .u64 v)).setCell ⟨p, 6, none⟩ (.bool y)).setCell ⟨p, 1, none⟩ (.int .i64 (wrap64 (s.c + 1)))).setCell ⟨g, n, none⟩ (.int .u64 v)) p g (s.hit k n v y) := by
  subst hx
  have ne := m.ne
  refine ⟨?_, ?_, ne⟩
  · have h := (((((m.top.set 2 (.int .i64 k)).set 3 (.int .i64 n)).set 4 (.int .u64 (s.get n))).set 5 (.int .u64 v)).set 6 (.bool y)).set 1 (.int .i64 (wrap64 (s.c + 1)))
    have h2 := h.far (p := ⟨g, n, none⟩) ne (.int .u64 v)
    have e : (s.hit k n v y).xs.length = s.xs.length := by simp [St.hit]
    rw [e]; exact h2
  · have h := ((((((m.row.far (p := ⟨p, 2, none⟩) ne.symm (.int .i64 k)).far (p := ⟨p, 3, none⟩) ne.symm (.int .i64 n)).far (p := ⟨p, 4, none⟩) ne.symm (.int .u64 (s.get n))).far (p := ⟨p, 5, none⟩) ne.symm (.int .u64 v)).far (p := ⟨p, 6, none⟩) ne.symm (.bool y)).far (p := ⟨p, 1, none⟩) ne.symm (.int .i64 (wrap64 (s.c + 1)))).set n (.int .u64 v)
    rw [row_set] at h; exact h
theorem else_hit {w : World} {p g : Nat} {q1 q2 q3 q4 q5 q6 q7 : Nat} {u1 u2 u3 u4 u5 u6 u7 : Value} :
    Else [p, g] w (((((((w.setCell ⟨p, q1, none⟩ u1).setCell ⟨p, q2, none⟩ u2).setCell ⟨p, q3, none⟩ u3).setCell ⟨p, q4, none⟩ u4).setCell ⟨p, q5, none⟩ u5).setCell ⟨p, q6, none⟩ u6).setCell ⟨g, q7, none⟩ u7) :=
  (((((((Else.refl [p, g] w).set (.inl (by simp)) _).set (.inl (by simp)) _).set (.inl (by simp)) _).set (.inl (by simp)) _).set (.inl (by simp)) _).set (.inl (by simp)) _).set (.inl (by simp)) _

set_option maxHeartbeats 1000000 in
theorem stroke_in {w : World} {p g : Nat} {s : St} {i : Int} (k v : Int) (y : Bool) (m : Mem w p g s) (h : s.has i) :
    Calls Try.prog 59 #[.pointer (some ⟨p, 0, none⟩), .int .i64 k, .int .i64 i, .int .u64 v, .bool y] w fun e w' => e = .returned (.tuple #[]) ∧ Mem w' p g (s.hit k i v y) ∧ Else [p, g] w w' := by
  obtain ⟨c0, c1, c2, c3, c4, c5, c6⟩ := m.cells
  have f := m.top.frozen
  have fg := m.row.frozen
  have hne := m.ne
  have hh := Lib.hid h
  obtain ⟨h0, h1⟩ := h
  obtain ⟨n, rfl⟩ := Int.eq_ofNat_of_zero_le h0
  have d := m.cell hh.out
  obtain ⟨x, hx⟩ : ∃ x, x = s.get n := ⟨_, rfl⟩
  rw [← hx] at d
  have hx := Lib.hid hx
  have hm := Lib.hid m
  clear m
  go_enter Try.func59, Try.ntmps59
  go_wp2
  go_end0
  exact ⟨rfl, hm.out.hit k n v _ y rfl, else_hit⟩

set_option maxHeartbeats 1000000 in
theorem load_in {w : World} {p g : Nat} {s : St} {i : Int} (m : Mem w p g s) (h : s.has i) :
    Calls Try.prog 53 #[.pointer (some ⟨p, 0, none⟩), .int .i64 i] w fun e w' => e = .returned (.tuple #[.int .u64 (s.get i), .int .i64 0]) ∧ Mem w' p g (s.hit 1 i (s.get i) true) ∧ Else [p, g] w w' := by
  have c0 := m.top.cell (i := 0) rfl
  have hh := Lib.hid h
  obtain ⟨h0, h1⟩ := h
  obtain ⟨n, rfl⟩ := Int.eq_ofNat_of_zero_le h0
  have d := m.cell hh.out
  have hm := Lib.hid m
  clear m
  go_enter Try.func53, Try.ntmps53
  go_wp2_with (first
    | (go_at_call 32; refine (has_in hm.out hh.out).mono ?_; rintro e w' ⟨rfl, rfl⟩)
    | (go_at_call 59; refine (stroke_in _ _ _ hm.out hh.out).mono ?_; rintro e w' ⟨rfl, M1, E1⟩))
  go_ret2
  exact ⟨rfl, M1, E1⟩
theorem load_out {w : World} {p g : Nat} {s : St} {i : Int} (m : Mem w p g s) (h : ¬ s.has i) :
    Calls Try.prog 53 #[.pointer (some ⟨p, 0, none⟩), .int .i64 i] w fun e w' => e = .returned (.tuple #[.int .u64 0, .int .i64 1]) ∧ w = w' := by
  have hm := Lib.hid m
  clear m
  go_enter Try.func53, Try.ntmps53
  go_wp2_with ((go_at_call 32; refine (has_out hm.out h).mono ?_; rintro e w' ⟨rfl, rfl⟩))
  go_ret2
  exact ⟨rfl, rfl⟩
set_option maxHeartbeats 1000000 in
theorem store_in {w : World} {p g : Nat} {s : St} {i : Int} (v : Int) (m : Mem w p g s) (h : s.has i) :
    Calls Try.prog 55 #[.pointer (some ⟨p, 0, none⟩), .int .i64 i, .int .u64 v] w fun e w' => e = .returned (.int .i64 0) ∧ Mem w' p g (s.hit 2 i v true) ∧ Else [p, g] w w' := by
  have hh := Lib.hid h
  have hm := Lib.hid m
  clear m h
  go_enter Try.func55, Try.ntmps55
  go_wp2_with (first
    | (go_at_call 32; refine (has_in hm.out hh.out).mono ?_; rintro e w' ⟨rfl, rfl⟩)
    | (go_at_call 59; refine (stroke_in _ _ _ hm.out hh.out).mono ?_; rintro e w' ⟨rfl, M1, E1⟩))
  go_ret
  exact ⟨rfl, M1, E1⟩
theorem store_out {w : World} {p g : Nat} {s : St} {i : Int} (v : Int) (m : Mem w p g s) (h : ¬ s.has i) :
    Calls Try.prog 55 #[.pointer (some ⟨p, 0, none⟩), .int .i64 i, .int .u64 v] w fun e w' => e = .returned (.int .i64 1) ∧ w = w' := by
  have hm := Lib.hid m
  clear m
  go_enter Try.func55, Try.ntmps55
  go_wp2_with ((go_at_call 32; refine (has_out hm.out h).mono ?_; rintro e w' ⟨rfl, rfl⟩))
  go_ret
  exact ⟨rfl, rfl⟩
set_option maxHeartbeats 1000000 in
theorem cas_yes {w : World} {p g : Nat} {s : St} {i old : Int} (v : Int) (m : Mem w p g s) (h : s.has i) (hv : s.get i = old) :
    Calls Try.prog 61 #[.pointer (some ⟨p, 0, none⟩), .int .i64 i, .int .u64 old, .int .u64 v] w fun e w' => e = .returned (.tuple #[.bool true, .int .i64 0]) ∧ Mem w' p g (s.hit 3 i v true) ∧ Else [p, g] w w' := by
  have c0 := m.top.cell (i := 0) rfl
  have hh := Lib.hid h
  obtain ⟨h0, h1⟩ := h
  obtain ⟨n, rfl⟩ := Int.eq_ofNat_of_zero_le h0
  have d := m.cell hh.out
  rw [hv] at d
  have hm := Lib.hid m
  clear m hv
  go_enter Try.func61, Try.ntmps61
  go_wp2_with (first
    | (go_at_call 32; refine (has_in hm.out hh.out).mono ?_; rintro e w' ⟨rfl, rfl⟩)
    | (go_at_call 59; refine (stroke_in _ _ _ hm.out hh.out).mono ?_; rintro e w' ⟨rfl, M1, E1⟩))
  go_ret2
  exact ⟨rfl, M1, E1⟩
set_option maxHeartbeats 1000000 in
theorem cas_no {w : World} {p g : Nat} {s : St} {i old : Int} (v : Int) (m : Mem w p g s) (h : s.has i) (hv : s.get i ≠ old) :
    Calls Try.prog 61 #[.pointer (some ⟨p, 0, none⟩), .int .i64 i, .int .u64 old, .int .u64 v] w fun e w' => e = .returned (.tuple #[.bool false, .int .i64 0]) ∧ Mem w' p g (s.hit 3 i (s.get i) false) ∧ Else [p, g] w w' := by
  have c0 := m.top.cell (i := 0) rfl
  have hh := Lib.hid h
  obtain ⟨h0, h1⟩ := h
  obtain ⟨n, rfl⟩ := Int.eq_ofNat_of_zero_le h0
  have d := m.cell hh.out
  have hm := Lib.hid m
  clear m
  go_enter Try.func61, Try.ntmps61
  go_wp2_with (first
    | (go_at_call 32; refine (has_in hm.out hh.out).mono ?_; rintro e w' ⟨rfl, rfl⟩)
    | (go_at_call 59; refine (stroke_in _ _ _ hm.out hh.out).mono ?_; rintro e w' ⟨rfl, M1, E1⟩))
  go_ret2
  exact ⟨rfl, M1, E1⟩
theorem cas_out {w : World} {p g : Nat} {s : St} {i : Int} (old v : Int) (m : Mem w p g s) (h : ¬ s.has i) :
    Calls Try.prog 61 #[.pointer (some ⟨p, 0, none⟩), .int .i64 i, .int .u64 old, .int .u64 v] w fun e w' => e = .returned (.tuple #[.bool false, .int .i64 1]) ∧ w = w' := by
  have hm := Lib.hid m
  clear m
  go_enter Try.func61, Try.ntmps61
  go_wp2_with ((go_at_call 32; refine (has_out hm.out h).mono ?_; rintro e w' ⟨rfl, rfl⟩))
  go_ret2
  exact ⟨rfl, rfl⟩
set_option maxHeartbeats 1000000 in
theorem peek_in {w : World} {p g : Nat} {s : St} {i : Int} (m : Mem w p g s) (h : s.has i) :
    Calls Try.prog 14 #[.pointer (some ⟨p, 0, none⟩), .int .i64 i] w fun e w' => e = .returned (.int .u64 (s.get i)) ∧ w = w' := by
  have c0 := m.top.cell (i := 0) rfl
  have hh := Lib.hid h
  obtain ⟨h0, h1⟩ := h
  obtain ⟨n, rfl⟩ := Int.eq_ofNat_of_zero_le h0
  have d := m.cell hh.out
  have hm := Lib.hid m
  clear m
  go_enter Try.func14, Try.ntmps14
  go_wp2_with ((go_at_call 32; refine (has_in hm.out hh.out).mono ?_; rintro e w' ⟨rfl, rfl⟩))
  go_ret
  exact ⟨rfl, rfl⟩
theorem peek_out {w : World} {p g : Nat} {s : St} {i : Int} (m : Mem w p g s) (h : ¬ s.has i) :
    Calls Try.prog 14 #[.pointer (some ⟨p, 0, none⟩), .int .i64 i] w fun e w' => e = .returned (.int .u64 0) ∧ w = w' := by
  have hm := Lib.hid m
  clear m
  go_enter Try.func14, Try.ntmps14
  go_wp2_with ((go_at_call 32; refine (has_out hm.out h).mono ?_; rintro e w' ⟨rfl, rfl⟩))
  go_ret
  exact ⟨rfl, rfl⟩
theorem Mem.lay {w : World} {p g : Nat} {s : St} (m : Mem w p g s) (n : Nat) (v : Int) : Mem (w.setCell ⟨g, n, none⟩ (.int .u64 v)) p g (s.lay n v) := by
  refine ⟨?_, ?_, m.ne⟩
  · have h := m.top.far (p := ⟨g, n, none⟩) m.ne (.int .u64 v)
    have e : (s.lay n v).xs.length = s.xs.length := by simp [St.lay]
    rw [e]; exact h
  · have h := m.row.set n (.int .u64 v)
    rw [row_set] at h; exact h
set_option maxHeartbeats 1000000 in
theorem lay_in {w : World} {p g : Nat} {s : St} {i : Int} (v : Int) (m : Mem w p g s) (h : s.has i) :
    Calls Try.prog 11 #[.pointer (some ⟨p, 0, none⟩), .int .i64 i, .int .u64 v] w fun e w' => e = .returned (.int .i64 0) ∧ Mem w' p g (s.lay i v) ∧ Else [p, g] w w' := by
  have c0 := m.top.cell (i := 0) rfl
  have fg := m.row.frozen
  have hh := Lib.hid h
  obtain ⟨h0, h1⟩ := h
  obtain ⟨n, rfl⟩ := Int.eq_ofNat_of_zero_le h0
  have d := m.cell hh.out
  have hm := Lib.hid m
  clear m
  go_enter Try.func11, Try.ntmps11
  go_wp2_with ((go_at_call 32; refine (has_in hm.out hh.out).mono ?_; rintro e w' ⟨rfl, rfl⟩))
  go_ret
  exact ⟨rfl, hm.out.lay n v, (Else.refl [p, g] w).set (.inl (by simp)) _⟩
theorem lay_out {w : World} {p g : Nat} {s : St} {i : Int} (v : Int) (m : Mem w p g s) (h : ¬ s.has i) :
    Calls Try.prog 11 #[.pointer (some ⟨p, 0, none⟩), .int .i64 i, .int .u64 v] w fun e w' => e = .returned (.int .i64 1) ∧ w = w' := by
  have hm := Lib.hid m
  clear m
  go_enter Try.func11, Try.ntmps11
  go_wp2_with ((go_at_call 32; refine (has_out hm.out h).mono ?_; rintro e w' ⟨rfl, rfl⟩))
  go_ret
  exact ⟨rfl, rfl⟩
theorem count_any {w : World} {p g : Nat} {s : St} (m : Mem w p g s) :
    Calls Try.prog 17 #[.pointer (some ⟨p, 0, none⟩)] w fun e w' => e = .returned (.int .i64 s.c) ∧ w = w' := by
  have c1 := m.cells.2.1
  go_enter Try.func17, Try.ntmps17
  go_wp2
  go_ret
  exact ⟨rfl, rfl⟩
theorem len_any {w : World} {p g : Nat} {s : St} (m : Mem w p g s) :
    Calls Try.prog 57 #[.pointer (some ⟨p, 0, none⟩)] w fun e w' => e = .returned (.int .i64 s.xs.length) ∧ w = w' := by
  have c0 := m.cells.1
  go_enter Try.func57, Try.ntmps57
  go_wp2
  go_ret
  exact ⟨rfl, rfl⟩
theorem made_row (n : Nat) : madeCells (Value.int .u64 0).cells (n * 1) = row (List.replicate n 0) := by
  apply Array.ext
  · simp [madeCells, row]
  · intro i h1 h2
    simp [madeCells, row, Value.cells, Nat.mod_one]
theorem info_u64 : (Try.prog.info? 22).map (fun i => (i.zero, i.size, i.bytes)) = some (some (.int .u64 0), 1, 8) := by kernel_rfl
theorem run_row (n : Nat) (h : n ≤ 8388608) (w : World) : (Instr.makeSlice 35 (.int .i64 (n : Int)) (.int .i64 (n : Int))).run Try.prog w = .ok (.slice (some ⟨w.heap.size, 0, none⟩) n n) (w.alloc (.cells (row (List.replicate n 0)) 22)) := by
  obtain ⟨i, hi, hz0, hz1, hz2⟩ := info_parts info_u64
  have := run_make (P := Try.prog) w 35 22 i _ Try.underlying35 hi hz0 .i64 .i64 n n (by omega) (by omega) (by rw [hz2]; omega) (by omega)
  rw [this, hz1, made_row]; rfl
set_option maxHeartbeats 1000000 in
theorem new_in (n : Nat) (h0 : 1 ≤ n) (h1 : n ≤ 8388608) (w : World) :
    Calls Try.prog 30 #[.int .i64 (n : Int)] w fun e w' => e = .returned (.tuple #[.pointer (some ⟨w.heap.size + 1, 0, none⟩), .int .i64 0]) ∧ Mem w' (w.heap.size + 1) w.heap.size (St.zero n) ∧ Up w w' := by
  have hr := run_row n h1
  have b0 : (1 : Int) ≤ (n : Int) := by omega
  have b1 : (n : Int) ≤ 8388608 := by omega
  go_enter Try.func30, Try.ntmps30
  go_wp2
  go_ret2
  refine ⟨rfl, ⟨?_, ?_, by omega⟩, ((Up.refl _).then_alloc _).then_alloc _⟩
  · have h := Whole.new (w.alloc (.cells (row (List.replicate n 0)) 22)) 82 #[.slice (some ⟨w.heap.size, 0, none⟩) (St.zero n).xs.length (St.zero n).xs.length, .int .i64 0, .int .i64 0, .int .i64 0, .int .u64 0, .int .u64 0, .bool false]
    have e : (w.alloc (.cells (row (List.replicate n 0)) 22)).heap.size = w.heap.size + 1 := by simp
    rw [e] at h
    simpa [St.zero] using h
  · exact (Whole.new w 22 (row (List.replicate n 0))).alloc _
theorem new_out {i : Int} (h : i < 1 ∨ 8388608 < i) (w : World) :
    Calls Try.prog 30 #[.int .i64 i] w fun e w' => e = .returned (.tuple #[.pointer none, .int .i64 1]) ∧ w = w' := by
  by_cases h0 : i < 1
  · go_enter Try.func30, Try.ntmps30
    go_wp2
    go_ret2
    exact ⟨rfl, rfl⟩
  · have h1 : 8388608 < i := by omega
    go_enter Try.func30, Try.ntmps30
    go_wp2
    go_ret2
    exact ⟨rfl, rfl⟩
end Go.Proofs.Ytngaokhlcdlpfaa
