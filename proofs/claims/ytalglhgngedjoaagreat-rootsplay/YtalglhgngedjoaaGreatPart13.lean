/-
  Texts beneath RootsPlay, part 13: RefCells, RefWord, StackList, RefStack.
-/
import Derived.Test.YtalglhgngedjoaaGreatPart12
/-
  The reference's memory (rundaleref5.M): it lies in the world (Ref), each method's contract in the words of Cells.
-/
namespace Go.Proofs.YtalglhgngedjoaaGreat
open Go.RowKit

/-- The reference's memory lies at p, its cells at g: what they hold, how many accesses there were. -/
structure Ref (w : World) (p g : Nat) (xs : List Int) (n : Int) : Prop where
  top : Whole w p 93 #[.slice (some ⟨g, 0, none⟩) xs.length xs.length, .int .i64 n]
  row : Whole w g 90 (row xs)
  ne : p ≠ g
theorem Ref.up {w w' : World} {p g : Nat} {xs : List Int} {n : Int} (h : Ref w p g xs n) (u : Up w w') : Ref w' p g xs n := ⟨h.top.up u, h.row.up u, h.ne⟩
theorem Ref.else {w w' : World} {p g : Nat} {xs : List Int} {n : Int} {l : List Nat} (h : Ref w p g xs n) (u : Else l w w') (hp : p ∉ l) (hg : g ∉ l) : Ref w' p g xs n := ⟨u.whole h.top hp, u.whole h.row hg, h.ne⟩
theorem Ref.cells {w : World} {p g : Nat} {xs : List Int} {n : Int} (m : Ref w p g xs n) :
    w.cell? ⟨p, 0, none⟩ = some (.slice (some ⟨g, 0, none⟩) xs.length xs.length) ∧ w.cell? ⟨p, 1, none⟩ = some (.int .i64 n) := ⟨m.top.cell rfl, m.top.cell rfl⟩
theorem Ref.cell {w : World} {p g : Nat} {xs : List Int} {n : Int} (m : Ref w p g xs n) {i : Nat} (h : i < xs.length) : w.cell? ⟨g, i, none⟩ = some (.int .u64 (xs.getD i 0)) := m.row.cell (row_get h)
theorem Ref.count {w : World} {p g : Nat} {xs : List Int} {n : Int} (m : Ref w p g xs n) (n' : Int) : Ref (w.setCell ⟨p, 1, none⟩ (.int .i64 n')) p g xs n' :=
  ⟨m.top.set 1 _, m.row.far (p := ⟨p, 1, none⟩) m.ne.symm _, m.ne⟩
theorem Ref.set {w : World} {p g : Nat} {xs : List Int} {n : Int} (m : Ref w p g xs n) (i : Nat) (v : Int) : Ref (w.setCell ⟨g, i, none⟩ (.int .u64 v)) p g (xs.set i v) n := by
  refine ⟨?_, ?_, m.ne⟩
  · have h := m.top.far (p := ⟨g, i, none⟩) m.ne (.int .u64 v)
    rw [List.length_set]; exact h
  · have h := m.row.set i (.int .u64 v)
    rw [row_set] at h; exact h
theorem else_one {w : World} {p g i : Nat} {u : Value} : Else [p, g] w (w.setCell ⟨p, i, none⟩ u) := (Else.refl [p, g] w).set (.inl (by simp)) _
theorem else_two {w : World} {p g i j : Nat} {u v : Value} : Else [p, g] w ((w.setCell ⟨p, i, none⟩ u).setCell ⟨g, j, none⟩ v) := else_one.set (.inl (by simp)) _

set_option maxHeartbeats 1000000 in
theorem rnew_in (n : Nat) (h1 : n ≤ 8388608) (w : World) :
    Calls Tryz.prog 71 #[.int .i64 (n : Int)] w fun e w' => e = .returned (.pointer (some ⟨w.heap.size + 1, 0, none⟩)) ∧ Ref w' (w.heap.size + 1) w.heap.size (List.replicate n 0) 0 ∧ Up w w' := by
  have hr := run_row n h1
  go_enter Tryz.func71, Tryz.ntmps71
  go_wp2
  go_ret
  refine ⟨rfl, ⟨?_, ?_, by omega⟩, ((Up.refl _).then_alloc _).then_alloc _⟩
  · have h := Whole.new (w.alloc (.cells (row (List.replicate n 0)) 90)) 93 #[.slice (some ⟨w.heap.size, 0, none⟩) (List.replicate n (0 : Int)).length (List.replicate n (0 : Int)).length, .int .i64 0]
    have e : (w.alloc (.cells (row (List.replicate n 0)) 90)).heap.size = w.heap.size + 1 := by simp
    rw [e] at h
    simpa using h
  · exact (Whole.new w 90 (row (List.replicate n 0))).alloc _
set_option maxHeartbeats 1000000 in
theorem rload_in {w : World} {p g : Nat} {xs : List Int} {c : Int} {n : Nat} (m : Ref w p g xs c) (h : n < xs.length) :
    Calls Tryz.prog 80 #[.pointer (some ⟨p, 0, none⟩), .int .i64 (n : Int)] w fun e w' => e = .returned (.int .u64 (xs.getD n 0)) ∧ Ref w' p g xs (wrap64 (c + 1)) ∧ Else [p, g] w w' := by
  obtain ⟨c0, c1⟩ := m.cells
  have f := m.top.frozen
  have hne := m.ne
  have d := m.cell h
  obtain ⟨x, hx⟩ : ∃ x, xs.getD n 0 = x := ⟨_, rfl⟩
  rw [hx] at d ⊢
  have h1 : (n : Int) < (xs.length : Int) := by omega
  have h0 : (0 : Int) ≤ (n : Int) := by omega
  have hm := Lib.hid m
  clear m hx
  go_enter Tryz.func80, Tryz.ntmps80
  go_wp2
  go_ret
  exact ⟨rfl, hm.out.count _, else_one⟩
set_option maxHeartbeats 1000000 in
theorem rstore_in {w : World} {p g : Nat} {xs : List Int} {c : Int} {n : Nat} (v : Int) (m : Ref w p g xs c) (h : n < xs.length) :
    Calls Tryz.prog 84 #[.pointer (some ⟨p, 0, none⟩), .int .i64 (n : Int), .int .u64 v] w fun e w' => e = .returned (.tuple #[]) ∧ Ref w' p g (xs.set n v) (wrap64 (c + 1)) ∧ Else [p, g] w w' := by
  obtain ⟨c0, c1⟩ := m.cells
  have f := m.top.frozen
  have fg := m.row.frozen
  have hne := m.ne
  have d := m.cell h
  obtain ⟨x, hx⟩ : ∃ x, xs.getD n 0 = x := ⟨_, rfl⟩
  rw [hx] at d
  have h1 : (n : Int) < (xs.length : Int) := by omega
  have h0 : (0 : Int) ≤ (n : Int) := by omega
  have hm := Lib.hid m
  clear m hx
  go_enter Tryz.func84, Tryz.ntmps84
  go_wp2
  go_end0
  exact ⟨rfl, (hm.out.count _).set _ _, else_two⟩
set_option maxHeartbeats 1000000 in
theorem rcas_yes {w : World} {p g : Nat} {xs : List Int} {c old : Int} {n : Nat} (v : Int) (m : Ref w p g xs c) (h : n < xs.length) (hx : xs.getD n 0 = old) :
    Calls Tryz.prog 86 #[.pointer (some ⟨p, 0, none⟩), .int .i64 (n : Int), .int .u64 old, .int .u64 v] w fun e w' => e = .returned (.bool true) ∧ Ref w' p g (xs.set n v) (wrap64 (c + 1)) ∧ Else [p, g] w w' := by
  obtain ⟨c0, c1⟩ := m.cells
  have f := m.top.frozen
  have fg := m.row.frozen
  have hne := m.ne
  have d := m.cell h
  rw [hx] at d
  have h1 : (n : Int) < (xs.length : Int) := by omega
  have h0 : (0 : Int) ≤ (n : Int) := by omega
  have hm := Lib.hid m
  clear m hx
  go_enter Tryz.func86, Tryz.ntmps86
  go_wp2
  go_ret
  exact ⟨rfl, (hm.out.count _).set _ _, else_two⟩
set_option maxHeartbeats 1000000 in
theorem rcas_no {w : World} {p g : Nat} {xs : List Int} {c old : Int} {n : Nat} (v : Int) (m : Ref w p g xs c) (h : n < xs.length) (hx : xs.getD n 0 ≠ old) :
    Calls Tryz.prog 86 #[.pointer (some ⟨p, 0, none⟩), .int .i64 (n : Int), .int .u64 old, .int .u64 v] w fun e w' => e = .returned (.bool false) ∧ Ref w' p g xs (wrap64 (c + 1)) ∧ Else [p, g] w w' := by
  obtain ⟨c0, c1⟩ := m.cells
  have f := m.top.frozen
  have fg := m.row.frozen
  have hne := m.ne
  have d := m.cell h
  obtain ⟨x, ex⟩ : ∃ x, xs.getD n 0 = x := ⟨_, rfl⟩
  rw [ex] at d hx
  have h1 : (n : Int) < (xs.length : Int) := by omega
  have h0 : (0 : Int) ≤ (n : Int) := by omega
  have hm := Lib.hid m
  clear m ex
  go_enter Tryz.func86, Tryz.ntmps86
  go_wp2
  go_ret
  exact ⟨rfl, hm.out.count _, else_one⟩
end Go.Proofs.YtalglhgngedjoaaGreat

/-
  The contracts of the document's own answers about heads, roots and pins (rundaleref1), in the words of package word's.
-/
namespace Go.Proofs.YtalglhgngedjoaaGreat
open W64 Go.RowKit

set_option maxHeartbeats 400000 in
theorem rin_any (n a b : Int) (w : World) :
    Calls Tryz.prog 119 #[.int .i64 n, .int .i64 a, .int .i64 b] w fun e w' => e = .returned (.bool (inB n a b)) ∧ w = w' := by
  go_enter Tryz.func119, Tryz.ntmps119
  go_wp2
  all_goals
    go_ret
    refine ⟨ret_bool ?_, rfl⟩
    unfold inB
    simp [*]
  all_goals omega

set_option maxHeartbeats 800000 in
theorem rputHead_yes (i t : Int) (w : World) (h : headB i t = true) :
    Calls Tryz.prog 118 #[.agg #[.int .i64 i, .int .i64 t]] w fun e w' => e = .returned (.tuple #[.int .u64 (headN i t), .bool true]) ∧ Up w w' := by
  obtain ⟨⟨i0, i1⟩, t0, t1⟩ := headB_iff.1 h
  clear h
  go_enter Tryz.func118, Tryz.ntmps118
  go_wp2
  go_ret2
  refine ⟨ret_two ?_, up_box _ _ 0⟩
  unfold headN; omega

set_option maxHeartbeats 800000 in
theorem rputHead_no (i t : Int) (w : World) (h : headB i t = false) :
    Calls Tryz.prog 118 #[.agg #[.int .i64 i, .int .i64 t]] w fun e w' => e = .returned (.tuple #[.int .u64 0, .bool false]) ∧ Up w w' := by
  have h' : ¬ ((-1 ≤ i ∧ i ≤ 4294967294) ∧ (0 ≤ t ∧ t ≤ 4294967295)) := by rw [← headB_iff, h]; simp
  clear h
  have h'' : i < -1 ∨ (-1 ≤ i ∧ 4294967295 ≤ i) ∨ (-1 ≤ i ∧ i < 4294967295 ∧ t < 0) ∨ (-1 ≤ i ∧ i < 4294967295 ∧ 0 ≤ t ∧ 4294967295 < t) := by omega
  clear h'
  rcases h'' with a | ⟨a, b⟩ | ⟨a, b, c⟩ | ⟨a, b, c, d⟩
  all_goals
    go_enter Tryz.func118, Tryz.ntmps118
    go_wp2
    go_ret2
    exact ⟨rfl, up_box _ _ 0⟩

set_option maxHeartbeats 400000 in
theorem rgetHead_any (x : Int) (w : World) (h0 : 0 ≤ x) (h1 : x < 18446744073709551616) :
    Calls Tryz.prog 96 #[.int .u64 x] w fun e w' => e = .returned (.agg #[.int .i64 (x % 4294967296 - 1), .int .i64 (x / 4294967296)]) ∧ Up w w' := by
  go_enter Tryz.func96, Tryz.ntmps96
  go_wp2
  refine bodyPost_ret (v := .agg #[.int .i64 (x % 4294967296 - 1), .int .i64 (x / 4294967296)]) (by simp [results, Tryz.results96, go_sem]) rfl ⟨rfl, ?_⟩
  exact up_box _ _ 0

set_option maxHeartbeats 400000 in
theorem rnext_exact (i t index : Int) (w : World) :
    Calls Tryz.prog 120 #[.agg #[.int .i64 i, .int .i64 t], .int .i64 index] w fun e w' => e = .returned (.agg #[.int .i64 index, .int .i64 (nextT t)]) ∧ (w.alloc (.cells #[.int .i64 i, .int .i64 t] 160)).alloc (.cells #[.int .i64 index, .int .i64 (nextT t)] 160) = w' := by
  by_cases c1 : t < 0
  · have e1 : nextT t = 0 := by unfold nextT; rw [inB_no.2 (.inl c1)]; rfl
    rw [e1]; clear e1
    go_enter Tryz.func120, Tryz.ntmps120
    go_wp2
    exact bodyPost_ret (v := .agg #[.int .i64 index, .int .i64 0]) (by simp [results, Tryz.results120, go_sem]) rfl ⟨rfl, rfl⟩
  · by_cases c2 : 4294967295 ≤ t
    · have e1 : nextT t = 0 := by unfold nextT; rw [inB_no.2 (.inr (by omega))]; rfl
      rw [e1]; clear e1
      go_enter Tryz.func120, Tryz.ntmps120
      go_wp2
      exact bodyPost_ret (v := .agg #[.int .i64 index, .int .i64 0]) (by simp [results, Tryz.results120, go_sem]) rfl ⟨rfl, rfl⟩
    · have e1 : nextT t = t + 1 := by unfold nextT; rw [inB_iff.2 ⟨by omega, by omega⟩]; rfl
      rw [e1]; clear e1
      go_enter Tryz.func120, Tryz.ntmps120
      go_wp2
      exact bodyPost_ret (v := .agg #[.int .i64 index, .int .i64 (t + 1)]) (by simp [results, Tryz.results120, go_sem]) rfl ⟨rfl, rfl⟩
theorem rnext_any (i t index : Int) (w : World) :
    Calls Tryz.prog 120 #[.agg #[.int .i64 i, .int .i64 t], .int .i64 index] w fun e w' => e = .returned (.agg #[.int .i64 index, .int .i64 (nextT t)]) ∧ Up w w' :=
  (rnext_exact i t index w).mono fun _ _ ⟨he, hw⟩ => ⟨he, hw ▸ up_box2 _ _ _⟩

set_option maxHeartbeats 400000 in
theorem rputRoot_yes (g k c o : Int) (w : World) (h : rootB g k c o = true) :
    Calls Tryz.prog 83 #[.agg #[.int .i64 g, .int .i64 k, .int .i64 c, .int .i64 o]] w fun e w' => e = .returned (.tuple #[.int .u64 (rootN g k c o), .bool true]) ∧ Up w w' := by
  obtain ⟨⟨g0, g1⟩, ⟨k0, k1⟩, ⟨c0, c1⟩, o0, o1⟩ := rootB_iff.1 h
  have d1 := inB_iff.2 ⟨g0, g1⟩
  have d2 := inB_iff.2 ⟨k0, k1⟩
  have d3 := inB_iff.2 ⟨c0, c1⟩
  have d4 := inB_iff.2 ⟨o0, o1⟩
  clear h
  go_enter Tryz.func83, Tryz.ntmps83
  go_wp2_with (go_at_call 119; refine (rin_any _ _ _ _).mono ?_; rintro e w' ⟨rfl, rfl⟩)
  go_ret2
  refine ⟨ret_two ?_, up_box _ _ 0⟩
  unfold rootN; omega

set_option maxHeartbeats 800000 in
theorem rputRoot_no (g k c o : Int) (w : World) (h : rootB g k c o = false) :
    Calls Tryz.prog 83 #[.agg #[.int .i64 g, .int .i64 k, .int .i64 c, .int .i64 o]] w fun e w' => e = .returned (.tuple #[.int .u64 0, .bool false]) ∧ Up w w' := by
  unfold rootB at h
  cases d1 : inB g 0 4294967295
  case' true =>
    rw [d1, Bool.true_and] at h
    cases d2 : inB k 0 4097
    case' true =>
      rw [d2, Bool.true_and] at h
      cases d3 : inB c 0 3
      case' true => rw [d3, Bool.true_and] at h
  all_goals
    go_enter Tryz.func83, Tryz.ntmps83
    go_wp2_with (go_at_call 119; refine (rin_any _ _ _ _).mono ?_; rintro e w' ⟨rfl, rfl⟩)
    go_ret2
    exact ⟨rfl, up_box _ _ 0⟩

set_option maxHeartbeats 400000 in
theorem rgetRoot_any (x : Int) (w : World) (h0 : 0 ≤ x) (h1 : x < 18446744073709551616) :
    Calls Tryz.prog 79 #[.int .u64 x] w fun e w' =>
      e = .returned (.agg #[.int .i64 (x / 4294967296), .int .i64 (x / 65536 % 65536), .int .i64 (x / 4096 % 16), .int .i64 (x % 4096)]) ∧ Up w w' := by
  go_enter Tryz.func79, Tryz.ntmps79
  go_wp2
  refine bodyPost_ret (v := .agg #[.int .i64 (x / 4294967296), .int .i64 (x / 65536 % 65536), .int .i64 (x / 4096 % 16), .int .i64 (x % 4096)]) (by simp [results, Tryz.results79, go_sem]) rfl ⟨rfl, ?_⟩
  exact up_box _ _ 0

set_option maxHeartbeats 400000 in
theorem rlive_any (g k c o gen : Int) (w : World) :
    Calls Tryz.prog 85 #[.agg #[.int .i64 g, .int .i64 k, .int .i64 c, .int .i64 o], .int .i64 gen] w fun e w' => e = .returned (.bool (liveB g k gen)) ∧ Up w w' := by
  by_cases h : 1 ≤ k
  · go_enter Tryz.func85, Tryz.ntmps85
    go_wp2
    go_ret
    refine ⟨ret_bool ?_, up_box _ _ 0⟩
    unfold liveB; simp [h]
  · go_enter Tryz.func85, Tryz.ntmps85
    go_wp2
    go_ret
    refine ⟨ret_bool ?_, up_box _ _ 0⟩
    unfold liveB; rw [decide_eq_false (by omega)]; rfl

set_option maxHeartbeats 400000 in
theorem rchunk_any (g k c o : Int) (w : World) (k0 : k < 9223372036854775808) :
    Calls Tryz.prog 87 #[.agg #[.int .i64 g, .int .i64 k, .int .i64 c, .int .i64 o]] w fun e w' => e = .returned (.int .i64 (chunkN k)) ∧ Up w w' := by
  by_cases h : k < 2
  · go_enter Tryz.func87, Tryz.ntmps87
    go_wp2
    go_ret
    refine ⟨ret_int ?_, up_box _ _ 0⟩
    unfold chunkN; rw [if_pos h]
  · go_enter Tryz.func87, Tryz.ntmps87
    go_wp2
    go_ret
    refine ⟨ret_int ?_, up_box _ _ 0⟩
    unfold chunkN; rw [if_neg (by omega)]

theorem rputHead_any (i t : Int) (w : World) :
    Calls Tryz.prog 118 #[.agg #[.int .i64 i, .int .i64 t]] w fun e w' => e = .returned (.tuple #[.int .u64 (headV i t), .bool (headB i t)]) ∧ Up w w' := by
  unfold headV
  cases h : headB i t
  · exact rputHead_no i t w h
  · exact rputHead_yes i t w h
theorem rputRoot_any (g k c o : Int) (w : World) :
    Calls Tryz.prog 83 #[.agg #[.int .i64 g, .int .i64 k, .int .i64 c, .int .i64 o]] w fun e w' => e = .returned (.tuple #[.int .u64 (rootV g k c o), .bool (rootB g k c o)]) ∧ Up w w' := by
  unfold rootV
  cases h : rootB g k c o
  · exact rputRoot_no g k c o w h
  · exact rputRoot_yes g k c o w h
end Go.Proofs.YtalglhgngedjoaaGreat

/-
  Package stack: List.
-/
namespace Go.Proofs.YtalglhgngedjoaaGreat
open Go.RowKit
open W64
set_option maxRecDepth 100000

/-- The cells hold the stack S, from its top. -/
structure Holds (s : St) (hd ln n : Nat) (S : List Nat) : Prop where
  top : topN n (s.get hd) = Stk.linkOf S - 1
  link : ∀ j, j < S.length → belowN n (s.get (ln + (S.getD j 0 : Nat))) = Stk.linkOf (S.drop (j + 1)) - 1
  small : ∀ x ∈ S, x < n
  len : S.length ≤ n
theorem I_take {S : List Nat} {k : Nat} (h : k < S.length) : I (S.take (k + 1)) = I (S.take k) ++ [((S.getD k 0 : Nat) : Int)] := by
  rw [← Stk.take_more h]; simp [I]
section
variable {w : World} {p g q hd ln n : Nat} {s : St} {S : List Nat}
def ListRel (w : World) (S : List Nat) (v i : Value) (wr : World) : Prop := ∃ k : Nat, k ≤ S.length ∧ i = .int .i64 (Stk.linkOf (S.drop k) - 1) ∧ wr.ownsRow w.heap.size 3 1 v k ((I (S.take k)).map (Value.int .i64)) ∧ Up w wr
theorem list_step {wr wD : World} {v : Value} {k gg cap : Nat} (hk : k < S.length) (hown : wr.ownsRow w.heap.size 3 1 v k ((I (S.take k)).map (Value.int .i64))) (hu : Up w wr) {o : Obj}
    (hD : wD.ownsRow w.heap.size 3 1 (.slice (some ⟨gg, 0, none⟩) (k + 1) cap) (k + 1) ((I (S.take k)).map (Value.int .i64) ++ [.int .i64 ((S.getD k 0 : Nat) : Int)])) (hg : (wr.alloc o).grownBy wD v.ownBlock) :
    wD.ownsRow w.heap.size 3 1 (.slice (some ⟨gg, 0, none⟩) (k + 1) cap) (k + 1) ((I (S.take (k + 1))).map (Value.int .i64)) ∧ Up w wD := by
  refine ⟨by rw [I_take hk]; simpa using hD, (hu.then_alloc o).grown hg (own_ge hown)⟩
set_option maxHeartbeats 4000000 in
theorem list_in (E : Env w p g q hd ln n s) (H : Holds s hd ln n S) :
    Calls Tryz.prog 52 #[.pointer (some ⟨q, 0, none⟩)] w fun e w' => ∃ v, e = .returned v ∧ Ints w' v (I S) ∧ Fresh w v ∧ Up w w' := by
  obtain ⟨c0, c1, c2, c3⟩ := E.cells
  have n0 := E.n0
  have n1 := E.n1
  have hl := E.hl
  have ht := E.top
  have hk := E.ok hd
  have HE := Lib.hid E
  have HT := Lib.hid H.top
  have HHD := Lib.hid E.hasH
  have HH := Lib.hid H
  have hlen := H.len
  clear E H
  go_enter Tryz.func52, Tryz.ntmps52
  go_upto_region 2 with fail
  go_region_held3 (fun w' => w'.cell? ⟨q, 0, none⟩ = some (.pointer (some ⟨p, 0, none⟩)) ∧ w'.cell? ⟨q, 1, none⟩ = some (.int .i64 hd)) ((first | exact ⟨c0, c1⟩ | exact ⟨U1.kept c0, U1.kept c1⟩))
    (first
      | (go_at_call 50; refine (peek_in (HE.out.mem.up (up_drew w)) HHD.out).mono ?_; rintro e w9 ⟨rfl, rfl⟩)
      | (go_at_call 94; refine (ofHead_to (HE.out.up (up_drew w)) hk.1 hk.2 HT.out).mono ?_; rintro e w1 ⟨rfl, U1⟩))
  have HU := Lib.hid ((up_drew w).trans U1)
  clear U1 c0 c1 c2 c3
  go_wp2_with fail
  go_loopw [3, 4] (fun v i wr => ListRel w S v i wr) (fun v _ _ => S.length - nOf v)
  case atStart => exact ⟨0, Nat.zero_le _, rfl, World.ownsRow_nil _ _ _ _, HU.out⟩
  case round =>
    obtain ⟨k, hks, rfl, hown, hup⟩ := hrel
    obtain ⟨A, cp, rfl⟩ := own_slice hown
    have HEr := Lib.hid (HE.out.up hup)
    obtain ⟨c0, c1, c2, c3⟩ := HEr.out.cells
    have HO := Lib.hid hown
    have HUP := Lib.hid hup
    clear hown hup
    by_cases hlt : k < S.length
    · rw [Stk.linkOf_drop hlt, show (((S.getD k 0 : Nat) : Int) + 1 - 1) = ((S.getD k 0 : Nat) : Int) by omega]
      have hx := HH.out.small _ (Stk.getD_mem hlt)
      have hb := HH.out.link k hlt
      obtain ⟨x, ex⟩ : ∃ x, S.getD k 0 = x := ⟨_, rfl⟩
      rw [ex] at hx hb ⊢
      have HX := Lib.hid ex
      have HB := Lib.hid hb
      have hz := HE.out.ok (ln + x)
      have hh := Lib.hid (HE.out.hasL (i := x) (by omega) (by omega))
      clear ex hb
      have g1 : ((x : Int) == -1) = false := by simp
      have g2 : (k : Int) < (n : Int) := by omega
      have s3 : IntKind.i64.wrap ((ln : Int) + x) = ln + x := IntWalk.i64_in _ (by omega)
      obtain ⟨i9, hi, hz0, hz1, hz2⟩ := info_parts info_int
      have g63 : k + 1 ≤ maxLen := by unfold maxLen; omega
      have gby : (k + 1) * 8 ≤ 140737488355328 := by omega
      have gba : w.heap.size ≤ (wr.alloc (.cells #[.int .i64 (x : Int)] 3)).heap.size := by have := HUP.out.le; simp; omega
      go_upto_region 5 with (at_builtin; refine wpList_append_lies _ rfl _ _ 22 rfl w.heap.size 3 i9 (.int .i64 0) 1 8 Tryz.underlying22 hi hz0 hz1 hz2 rfl (by decide) (.slice A k cp) k ((I (S.take k)).map (Value.int .i64)) rfl (own_up HO.out (Up.alloc _ _)) ⟨wr.heap.size, 0, none⟩ 1 1 [.int .i64 (x : Int)] rfl rfl (one_new _ _ _) (by simp [Value.oneCell']) (by decide) g63 gby gba _ rfl ?_; intro gg cap2 wD hownD hgrow hat hltD)
      have HS := Lib.hid (list_step hlt HO.out HUP.out (by rw [HX.out]; exact hownD) hgrow)
      clear hownD hgrow c0 c1 c2 c3
      have HED := Lib.hid (HE.out.up HS.out.2)
      obtain ⟨c0, c1, c2, c3⟩ := HED.out.cells
      go_region_held3 (fun w' => w'.cell? ⟨q, 0, none⟩ = some (.pointer (some ⟨p, 0, none⟩)) ∧ w'.cell? ⟨q, 2, none⟩ = some (.int .i64 ln)) ((first | exact ⟨c0, c2⟩))
        (first
          | (go_at_call 50; refine (peek_in (HED.out.mem.up (up_drew wD)) hh.out).mono ?_; rintro e w9 ⟨rfl, rfl⟩)
          | (go_at_call 95; refine (ofLink_to (HED.out.up (up_drew wD)) hz.1 hz.2 HB.out).mono ?_; rintro e w9 ⟨rfl, rfl⟩))
      go_wp2_with fail
      go_roundw
      case rel => exact ⟨k + 1, by omega, rfl, own_up HS.out.1 (up_drew wD), HS.out.2.trans (up_drew wD)⟩
      case measure => simp [nOf]; omega
    · have e : S.take k = S := List.take_of_length_le (by omega)
      have e2 : S.length = k := by omega
      rw [Stk.linkOf_end (by omega)]
      have hc : (0 : Int) - 1 = -1 := by omega
      rw [hc]
      go_wp2_with fail
      go_ret
      refine ⟨_, rfl, ?_, own_ge HO.out, HUP.out⟩
      rw [e] at HO
      exact ints_of_own HO.out (by rw [I_len]; omega) rfl
end
end Go.Proofs.YtalglhgngedjoaaGreat

/-
  The reference's stack (rundaleref5): Top, Below, next; new machines; Got.
-/
namespace Go.Proofs.YtalglhgngedjoaaGreat
open Go.RowKit
open W64
set_option maxRecDepth 100000

/-- The reference's stack lies at q, over the memory at p, whose cells lie at g. -/
structure REnv (w : World) (p g q hd ln n : Nat) (xs : List Int) (c : Int) : Prop where
  mem : Ref w p g xs c
  stk : Whole w q 111 #[.pointer (some ⟨p, 0, none⟩), .int .i64 hd, .int .i64 ln, .int .i64 n]
  ok : ∀ i, 0 ≤ xs.getD i 0 ∧ xs.getD i 0 < 18446744073709551616
  np : q ≠ p
  ng : q ≠ g
  n0 : 1 ≤ n
  n1 : n ≤ 4096
  hh : hd < xs.length
  hl : ln + n ≤ xs.length
  top : xs.length ≤ 8388608
section
variable {w w' : World} {p g q hd ln n b most i : Nat} {xs : List Int} {c : Int} {v : Value} {l : List Nat} {old deep : Int}
theorem REnv.up (E : REnv w p g q hd ln n xs c) (u : Up w w') : REnv w' p g q hd ln n xs c := ⟨E.mem.up u, E.stk.up u, E.ok, E.np, E.ng, E.n0, E.n1, E.hh, E.hl, E.top⟩
theorem REnv.else (E : REnv w p g q hd ln n xs c) {x : List Nat} (u : Else x w w') (h1 : p ∉ x) (h2 : g ∉ x) (h3 : q ∉ x) : REnv w' p g q hd ln n xs c :=
  ⟨E.mem.else u h1 h2, u.whole E.stk h3, E.ok, E.np, E.ng, E.n0, E.n1, E.hh, E.hl, E.top⟩
theorem REnv.turn (E : REnv w p g q hd ln n xs c) {xs' : List Int} {c' : Int} (m : Ref w' p g xs' c') {x : List Nat} (u : Else x w w') (hq : q ∉ x) (ok : ∀ i, 0 ≤ xs'.getD i 0 ∧ xs'.getD i 0 < 18446744073709551616) (hl : xs'.length = xs.length) : REnv w' p g q hd ln n xs' c' :=
  ⟨m, u.whole E.stk hq, ok, E.np, E.ng, E.n0, E.n1, hl ▸ E.hh, hl ▸ E.hl, hl ▸ E.top⟩
theorem REnv.cells (E : REnv w p g q hd ln n xs c) : w.cell? ⟨q, 0, none⟩ = some (.pointer (some ⟨p, 0, none⟩)) ∧ w.cell? ⟨q, 1, none⟩ = some (.int .i64 hd) ∧ w.cell? ⟨q, 2, none⟩ = some (.int .i64 ln) ∧ w.cell? ⟨q, 3, none⟩ = some (.int .i64 n) :=
  ⟨E.stk.cell rfl, E.stk.cell rfl, E.stk.cell rfl, E.stk.cell rfl⟩
theorem ok_set {xs : List Int} (h : ∀ i, 0 ≤ xs.getD i 0 ∧ xs.getD i 0 < 18446744073709551616) {j : Nat} {v : Int} (h0 : 0 ≤ v) (h1 : v < 18446744073709551616) : ∀ i, 0 ≤ (xs.set j v).getD i 0 ∧ (xs.set j v).getD i 0 < 18446744073709551616 := by
  intro i
  rw [getD_set]
  split
  · exact ⟨h0, h1⟩
  · exact h i

theorem run_rindex (i t : Int) (w : World) : (Instr.field 160 (.agg #[.int .i64 i, .int .i64 t]) 0).run Tryz.prog w = .ok (.int .i64 i) w := by
  rfl
set_option maxHeartbeats 400000 in
theorem rtop_in (E : REnv w p g q hd ln n xs c) {x : Int} (h0 : 0 ≤ x) (h1 : x < 18446744073709551616) :
    Calls Tryz.prog 53 #[.pointer (some ⟨q, 0, none⟩), .int .u64 x] w fun e w' => e = .returned (.int .i64 (topN n x)) ∧ Up w w' := by
  have c3 := E.cells.2.2.2
  have hf := run_rindex
  by_cases h : (n : Int) ≤ x % 4294967296 - 1
  · have e : topN n x = -1 := by unfold topN; rw [if_pos h]
    rw [e]
    have c := Lib.hid c3
    go_enter Tryz.func53, Tryz.ntmps53
    go_wp2_with (go_at_call 96; refine (rgetHead_any x _ h0 h1).mono ?_; rintro e w1 ⟨rfl, U1⟩; have c4 := U1.kept c.out)
    go_ret
    exact ⟨rfl, U1⟩
  · have e : topN n x = x % 4294967296 - 1 := by unfold topN; rw [if_neg h]
    rw [e]
    have c := Lib.hid c3
    go_enter Tryz.func53, Tryz.ntmps53
    go_wp2_with (go_at_call 96; refine (rgetHead_any x _ h0 h1).mono ?_; rintro e w1 ⟨rfl, U1⟩; have c4 := U1.kept c.out)
    go_ret
    exact ⟨rfl, U1⟩
theorem rtop_to (E : REnv w p g q hd ln n xs c) {x y : Int} (h0 : 0 ≤ x) (h1 : x < 18446744073709551616) (e : topN n x = y) :
    Calls Tryz.prog 53 #[.pointer (some ⟨q, 0, none⟩), .int .u64 x] w fun e w' => e = .returned (.int .i64 y) ∧ Up w w' := e ▸ rtop_in E h0 h1
set_option maxHeartbeats 400000 in
theorem rbelow_in (E : REnv w p g q hd ln n xs c) {x : Int} (h0 : 0 ≤ x) (_h1 : x < 18446744073709551616) :
    Calls Tryz.prog 54 #[.pointer (some ⟨q, 0, none⟩), .int .u64 x] w fun e w' => e = .returned (.int .i64 (belowN n x)) ∧ w = w' := by
  have c3 := E.cells.2.2.2
  have n1 := E.n1
  have e1 : IntKind.u64.wrap (n : Int) = n := IntWalk.u64_in _ (by omega)
  by_cases h : (n : Int) < x
  · have e : belowN n x = -1 := by unfold belowN; rw [if_pos h]
    rw [e]
    go_enter Tryz.func54, Tryz.ntmps54
    go_wp2
    go_ret
    exact ⟨rfl, rfl⟩
  · have e : belowN n x = x - 1 := by unfold belowN; rw [if_neg h]
    rw [e]
    have e2 : IntKind.i64.wrap x = x := IntWalk.i64_in _ (by omega)
    have e3 : wrap64 (x - 1) = x - 1 := wrap64_in (by omega) (by omega)
    go_enter Tryz.func54, Tryz.ntmps54
    go_wp2
    go_ret
    refine ⟨ret_int ?_, rfl⟩
    first | rfl | exact e3 | omega
theorem rbelow_to (E : REnv w p g q hd ln n xs c) {x y : Int} (h0 : 0 ≤ x) (h1 : x < 18446744073709551616) (e : belowN n x = y) :
    Calls Tryz.prog 54 #[.pointer (some ⟨q, 0, none⟩), .int .u64 x] w fun e w' => e = .returned (.int .i64 y) ∧ w = w' := e ▸ rbelow_in E h0 h1
set_option maxHeartbeats 1000000 in
theorem rnext_in {x i : Int} (h0 : 0 ≤ x) (h1 : x < 18446744073709551616) (i0 : -1 ≤ i) (i1 : i ≤ 4096) (w : World) :
    Calls Tryz.prog 88 #[.int .u64 x, .int .i64 i] w fun e w' => e = .returned (.int .u64 (nextW x i)) ∧ Up w w' := by
  obtain ⟨e1, e2⟩ := nextW_is (x := x) i0 i1
  have E1 := Lib.hid e1
  have E2 := Lib.hid e2
  clear e1 e2
  go_enter Tryz.func88, Tryz.ntmps88
  go_wp2_with (first
    | (go_at_call 96; refine (rgetHead_any x _ h0 h1).mono ?_; rintro e w1 ⟨rfl, U1⟩)
    | (go_at_call 120; refine (rnext_any _ _ _ _).mono ?_; rintro e w2 ⟨rfl, U2⟩)
    | (go_at_call 118; refine (rputHead_yes _ _ _ E1.out).mono ?_; rintro e w3 ⟨rfl, U3⟩))
  go_ret
  exact ⟨ret_int E2.out, (U1.trans U2).trans U3⟩
/-! ### The machines -/
structure RPushAt (w : World) (b q : Nat) (v : Value) (l : List Nat) (i : Nat) (old : Int) (d : Bool) : Prop where
  top : Whole w b 104 #[.pointer (some ⟨q, 0, none⟩), v, .int .i64 i, .int .u64 old, .bool d]
  row : Ints w v (I l)
  away : v.ownBlock ≠ some b
structure RPopAt (w : World) (b q : Nat) (v : Value) (l : List Nat) (most i : Nat) (deep old : Int) (d : Bool) : Prop where
  top : Whole w b 142 #[.pointer (some ⟨q, 0, none⟩), .int .i64 most, .int .i64 i, .int .i64 deep, .int .u64 old, v, .bool d]
  row : Ints w v (I l)
  away : v.ownBlock ≠ some b
theorem RPushAt.else {d : Bool} (P : RPushAt w b q v l i old d) {t : List Nat} (u : Else t w w') (h1 : b ∉ t) (h2 : Away v t) : RPushAt w' b q v l i old d := ⟨u.whole P.top h1, P.row.else u h2, P.away⟩
theorem RPopAt.else {d : Bool} (P : RPopAt w b q v l most i deep old d) {t : List Nat} (u : Else t w w') (h1 : b ∉ t) (h2 : Away v t) : RPopAt w' b q v l most i deep old d := ⟨u.whole P.top h1, P.row.else u h2, P.away⟩
theorem RPushAt.up {d : Bool} (P : RPushAt w b q v l i old d) (u : Up w w') : RPushAt w' b q v l i old d := ⟨P.top.up u, P.row.up u, P.away⟩
theorem RPopAt.up {d : Bool} (P : RPopAt w b q v l most i deep old d) (u : Up w w') : RPopAt w' b q v l most i deep old d := ⟨P.top.up u, P.row.up u, P.away⟩
theorem RPushAt.cells {d : Bool} (P : RPushAt w b q v l i old d) : w.cell? ⟨b, 0, none⟩ = some (.pointer (some ⟨q, 0, none⟩)) ∧ w.cell? ⟨b, 1, none⟩ = some v ∧ w.cell? ⟨b, 2, none⟩ = some (.int .i64 i) ∧ w.cell? ⟨b, 3, none⟩ = some (.int .u64 old) ∧ w.cell? ⟨b, 4, none⟩ = some (.bool d) :=
  ⟨P.top.cell rfl, P.top.cell rfl, P.top.cell rfl, P.top.cell rfl, P.top.cell rfl⟩
theorem RPopAt.cells {d : Bool} (P : RPopAt w b q v l most i deep old d) : w.cell? ⟨b, 0, none⟩ = some (.pointer (some ⟨q, 0, none⟩)) ∧ w.cell? ⟨b, 1, none⟩ = some (.int .i64 most) ∧ w.cell? ⟨b, 2, none⟩ = some (.int .i64 i) ∧ w.cell? ⟨b, 3, none⟩ = some (.int .i64 deep) ∧ w.cell? ⟨b, 4, none⟩ = some (.int .u64 old) ∧ w.cell? ⟨b, 5, none⟩ = some v ∧ w.cell? ⟨b, 6, none⟩ = some (.bool d) :=
  ⟨P.top.cell rfl, P.top.cell rfl, P.top.cell rfl, P.top.cell rfl, P.top.cell rfl, P.top.cell rfl, P.top.cell rfl⟩
set_option maxHeartbeats 1000000 in
theorem rpush_new (R : Rd w v (I l)) (h0 : l ≠ []) (hl : l.length ≤ 8000) :
    Calls Tryz.prog 91 #[.pointer (some ⟨q, 0, none⟩), v] w fun e w' => ∃ b v', e = .returned (.pointer (some ⟨b, 0, none⟩)) ∧ RPushAt w' b q v' l 0 0 false ∧ w.heap.size ≤ b ∧ Fresh w v' ∧ Up w w' := by
  have lp := List.length_pos_iff.2 h0
  obtain ⟨A, cap, rfl⟩ := R.slice
  rw [I_len] at R ⊢
  have HR := Lib.hid R
  clear R
  have e0 : ((l.length : Int) == 0) = false := by simp; omega
  go_enter Tryz.func91, Tryz.ntmps91
  go_wp2_with (at_builtin; refine wpList_app (v := .slice none 0 0) rfl _ _ rfl rfl rfl (Ints.nil _) HR.out (by rw [I_len]; simp; omega) ?_; intro v5 w5 J5 G5 A5; obtain ⟨A5v, N5, c5, rfl⟩ := shapeI J5; have HJ5 := Lib.hid J5; have HU5 := Lib.hid (up_app (Up.refl _) G5 (fresh_nil _)); have HF5 := Lib.hid (fresh_app (fresh_nil w) (Nat.le_refl _) A5); clear J5 G5 A5)
  go_ret
  refine ⟨_, _, rfl, ⟨Whole.new _ _ _, HJ5.out.up (Up.alloc _ _), fun e => ?_⟩, HU5.out.size, HF5.out, HU5.out.then_alloc _⟩
  have := HJ5.out.lt e; omega
set_option maxHeartbeats 1000000 in
theorem rpop_new (m : Int) {most : Nat} (hm : min (max m 1) 8 = most) :
    Calls Tryz.prog 121 #[.pointer (some ⟨q, 0, none⟩), .int .i64 m] w fun e w' => e = .returned (.pointer (some ⟨w.heap.size, 0, none⟩)) ∧ RPopAt w' w.heap.size q (.slice none 0 0) [] most 0 0 0 false ∧ Up w w' := by
  have key : ∀ k : Int, k = most → RPopAt (w.alloc (.cells #[.pointer (some ⟨q, 0, none⟩), .int .i64 k, .int .i64 0, .int .i64 0, .int .u64 0, .slice none 0 0, .bool false] 142)) w.heap.size q (.slice none 0 0) [] most 0 0 0 false := by
    intro k e; subst e; exact ⟨Whole.new _ _ _, Ints.nil _, by simp [Value.ownBlock]⟩
  have HK := Lib.hid key
  clear key
  by_cases h1 : m < 1
  · have e : (1 : Int) = most := by omega
    have E := Lib.hid e
    clear hm e
    go_enter Tryz.func121, Tryz.ntmps121
    go_wp2_with fail
    go_ret
    exact ⟨rfl, HK.out _ E.out, Up.alloc _ _⟩
  · by_cases h2 : m ≤ 8
    · have e : m = most := by omega
      have E := Lib.hid e
      clear hm e
      go_enter Tryz.func121, Tryz.ntmps121
      go_wp2_with fail
      go_ret
      exact ⟨rfl, HK.out _ E.out, Up.alloc _ _⟩
    · have e : (8 : Int) = most := by omega
      have E := Lib.hid e
      clear hm e
      go_enter Tryz.func121, Tryz.ntmps121
      go_wp2_with fail
      go_ret
      exact ⟨rfl, HK.out _ E.out, Up.alloc _ _⟩
set_option maxHeartbeats 1000000 in
theorem rgot_any {d : Bool} (P : RPopAt w b q v l most i deep old d) (hl : l.length ≤ 8) :
    Calls Tryz.prog 78 #[.pointer (some ⟨b, 0, none⟩)] w fun e w' => ∃ v', e = .returned v' ∧ Ints w' v' (I (if d then l else [])) ∧ Fresh w v' ∧ Up w w' := by
  obtain ⟨A, N, k, rfl⟩ := shapeI P.row
  have c6 := P.cells.2.2.2.2.2.2
  have c5 := P.cells.2.2.2.2.2.1
  have HR := Lib.hid P.row.rd
  clear P
  cases d with
  | false =>
    go_enter Tryz.func78, Tryz.ntmps78
    go_wp2_with fail
    go_ret
    exact ⟨_, rfl, Ints.nil _, fresh_nil _, Up.refl _⟩
  | true =>
    go_enter Tryz.func78, Tryz.ntmps78
    go_wp2_with (at_builtin; refine wpList_app (v := .slice none 0 0) rfl _ _ rfl rfl rfl (Ints.nil _) HR.out (by rw [I_len]; simp; omega) ?_; intro v5 w5 J5 G5 A5; obtain ⟨A5v, N5, c5', rfl⟩ := shapeI J5; have HJ5 := Lib.hid J5; have HU5 := Lib.hid (up_app (Up.refl _) G5 (fresh_nil _)); have HF5 := Lib.hid (fresh_app (fresh_nil w) (Nat.le_refl _) A5); clear J5 G5 A5)
    go_ret
    exact ⟨_, rfl, HJ5.out, HF5.out, HU5.out⟩
end
end Go.Proofs.YtalglhgngedjoaaGreat
