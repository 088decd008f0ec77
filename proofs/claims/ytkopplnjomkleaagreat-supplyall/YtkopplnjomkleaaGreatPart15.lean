/-
  Texts beneath SupplyAll, part 15: LayLaws, RtObj, RefCells, RefWord, StackList, StackFill.
-/
import Derived.Test.YtkopplnjomkleaaGreatPart14
/-
  What the statements of layer 4 share: the call of 'first'.
-/
namespace Go.Proofs.YtkopplnjomkleaaGreat
open Go.RowKit

/-- The chapter's example's configuration. -/
abbrev smallC : Cf := ⟨2, 4, 8, 3, 0, 1⟩
theorem e1 : lrootN smallC 0 = 5 := by decide
theorem e2 : lwordN smallC 1 0 = 23 := by decide
theorem e3 : lenN smallC = 47 := by decide
theorem e4 : mayB smallC = true := by decide
theorem e5 : lpinN smallC 1 = 4 := by decide
theorem e6 : lslotN smallC 0 = 8 := by decide
theorem e7 : llinkN smallC 0 = 11 := by decide

theorem len_is {c : Cf} {r : Int} (e : lenN c = r) (w : World) :
    Calls Tryz.prog 29 #[c.v] w fun e w' => e = .returned (.int .i64 r) ∧ Up w w' := e ▸ laylen_any c w
theorem may_is {c : Cf} {r : Bool} (e : mayB c = r) (w : World) :
    Calls Tryz.prog 70 #[c.v] w fun e w' => e = .returned (.bool r) ∧ Up w w' := e ▸ may_any c w
theorem link_is {c : Cf} {i r : Int} (e : llinkN c i = r) (w : World) :
    Calls Tryz.prog 74 #[c.v, .int .i64 i] w fun e w' => e = .returned (.int .i64 r) ∧ Up w w' := e ▸ link_any c i w
end Go.Proofs.YtkopplnjomkleaaGreat

/-
  Package roots: the slots over their cells (Roo); an object beside them (Ox); has, Spare.
-/
namespace Go.Proofs.YtkopplnjomkleaaGreat
open Go.RowKit
open W64
set_option maxRecDepth 100000
def rooRow (c : Cf) (p qs : Nat) : Array Value := #[.pointer (some ⟨p, 0, none⟩), .int .i64 c.wk, .int .i64 c.ch, .int .i64 c.wo, .int .i64 c.sl, .int .i64 c.ca, .int .i64 c.ba, .pointer (some ⟨qs, 0, none⟩)]
section
variable {w0 w w' : World} {q p g qs r0 n b d : Nat} {c : Cf} {s s' : St} {t : TypeId} {rb rq : Array Value} {M : World → Prop} {xs : List Int} {own : List Nat}
theorem rt_bd (x : Int) (h0 : 0 ≤ x) (h1 : x < 18446744073709551616) : (0 ≤ (rtOf x).g ∧ (rtOf x).g ≤ 4294967295) ∧ (0 ≤ (rtOf x).m ∧ (rtOf x).m ≤ 65535) := by
  unfold rtOf; dsimp only; omega
theorem loadj_to {a x : Int} {j : Nat} (ha : a = (j : Int)) (m : Mem w p g s) (h : j < s.xs.length) (hx : s.xs.getD j 0 = x) :
    Calls Tryz.prog 110 #[.pointer (some ⟨p, 0, none⟩), .int .i64 a] w fun e w' => e = .returned (.tuple #[.int .u64 x, .int .i64 0]) ∧ Mem w' p g (s.hit 1 (j : Int) (s.get (j : Int)) true) ∧ Else [p, g] w w' := by
  subst ha hx
  rw [← get_at s j]
  exact load_in m ⟨by omega, by omega⟩
theorem storej_to {a : Int} {j : Nat} (y : Int) (ha : a = (j : Int)) (m : Mem w p g s) (h : j < s.xs.length) :
    Calls Tryz.prog 159 #[.pointer (some ⟨p, 0, none⟩), .int .i64 a, .int .u64 y] w fun e w' => e = .returned (.int .i64 0) ∧ Mem w' p g (s.hit 2 (j : Int) y true) ∧ Else [p, g] w w' := by
  subst ha; exact store_in y m ⟨by omega, by omega⟩
theorem casj_yes {a old : Int} {j : Nat} (v : Int) (ha : a = (j : Int)) (m : Mem w p g s) (h : j < s.xs.length) (hx : s.xs.getD j 0 = old) :
    Calls Tryz.prog 163 #[.pointer (some ⟨p, 0, none⟩), .int .i64 a, .int .u64 old, .int .u64 v] w fun e w' => e = .returned (.tuple #[.bool true, .int .i64 0]) ∧ Mem w' p g (s.hit 3 (j : Int) v true) ∧ Else [p, g] w w' := by
  subst ha; exact cas_yes v m ⟨by omega, by omega⟩ (by rw [get_at]; exact hx)
theorem casj_no {a old : Int} {j : Nat} (v : Int) (ha : a = (j : Int)) (m : Mem w p g s) (h : j < s.xs.length) (hx : s.xs.getD j 0 ≠ old) :
    Calls Tryz.prog 163 #[.pointer (some ⟨p, 0, none⟩), .int .i64 a, .int .u64 old, .int .u64 v] w fun e w' => e = .returned (.tuple #[.bool false, .int .i64 0]) ∧ Mem w' p g (s.hit 3 (j : Int) (s.get (j : Int)) false) ∧ Else [p, g] w w' := by
  subst ha; exact cas_no v m ⟨by omega, by omega⟩ (by rw [get_at]; exact hx)
end
end Go.Proofs.YtkopplnjomkleaaGreat

/-
  The reference's memory (rundaleref5.M): it lies in the world (Ref), each method's contract in the words of Cells.
-/
namespace Go.Proofs.YtkopplnjomkleaaGreat
open Go.RowKit

/-- The reference's memory lies at p, its cells at g: what they hold, how many accesses there were. -/
structure Ref (w : World) (p g : Nat) (xs : List Int) (n : Int) : Prop where
  top : Whole w p 91 #[.slice (some ⟨g, 0, none⟩) xs.length xs.length, .int .i64 n]
  row : Whole w g 88 (row xs)
  ne : p ≠ g
theorem Ref.up {w w' : World} {p g : Nat} {xs : List Int} {n : Int} (h : Ref w p g xs n) (u : Up w w') : Ref w' p g xs n := ⟨h.top.up u, h.row.up u, h.ne⟩
theorem Ref.else {w w' : World} {p g : Nat} {xs : List Int} {n : Int} {l : List Nat} (h : Ref w p g xs n) (u : Else l w w') (hp : p ∉ l) (hg : g ∉ l) : Ref w' p g xs n := ⟨u.whole h.top hp, u.whole h.row hg, h.ne⟩
theorem Ref.cells {w : World} {p g : Nat} {xs : List Int} {n : Int} (m : Ref w p g xs n) :
    w.cell? ⟨p, 0, none⟩ = some (.slice (some ⟨g, 0, none⟩) xs.length xs.length) ∧ w.cell? ⟨p, 1, none⟩ = some (.int .i64 n) := ⟨m.top.cell rfl, m.top.cell rfl⟩
theorem Ref.cell {w : World} {p g : Nat} {xs : List Int} {n : Int} (m : Ref w p g xs n) {i : Nat} (h : i < xs.length) : w.cell? ⟨g, i, none⟩ = some (.int .u64 (xs.getD i 0)) := m.row.cell (row_get h)
theorem Ref.count {w : World} {p g : Nat} {xs : List Int} {n : Int} (m : Ref w p g xs n) (n' : Int) : Ref (w.setCell ⟨p, 1, none⟩ (.int .i64 n')) p g xs n' :=
  ⟨m.top.set 1 _, m.row.far (p := ⟨p, 1, none⟩) m.ne.symm _, m.ne⟩
theorem Ref.set {w : World} {p g : Nat} {xs : List Int} {n : Int} (m : Ref w p g xs n) (i : Nat) (v : Int) : Ref (w.setCell ⟨g, i, none⟩ (.int .u64 v)) p g (xs.set i v) n := by
  refine ⟨?_, ?_, m.ne⟩
  · have h := m.top.far (p := ⟨g, i, none⟩) m.ne (.int .u64 v)
    rw [List.length_set]; exact h
  · have h := m.row.set i (.int .u64 v)
    rw [row_set] at h; exact h
theorem else_one {w : World} {p g i : Nat} {u : Value} : Else [p, g] w (w.setCell ⟨p, i, none⟩ u) := (Else.refl [p, g] w).set (.inl (by simp)) _
theorem else_two {w : World} {p g i j : Nat} {u v : Value} : Else [p, g] w ((w.setCell ⟨p, i, none⟩ u).setCell ⟨g, j, none⟩ v) := else_one.set (.inl (by simp)) _

set_option maxHeartbeats 1000000 in
theorem rnew_in (n : Nat) (h1 : n ≤ 8388608) (w : World) :
    Calls Tryz.prog 76 #[.int .i64 (n : Int)] w fun e w' => e = .returned (.pointer (some ⟨w.heap.size + 1, 0, none⟩)) ∧ Ref w' (w.heap.size + 1) w.heap.size (List.replicate n 0) 0 ∧ Up w w' := by
  have hr := run_row n h1
  go_enter Tryz.func76, Tryz.ntmps76
  go_wp2
  go_ret
  refine ⟨rfl, ⟨?_, ?_, by omega⟩, ((Up.refl _).then_alloc _).then_alloc _⟩
  · have h := Whole.new (w.alloc (.cells (row (List.replicate n 0)) 88)) 91 #[.slice (some ⟨w.heap.size, 0, none⟩) (List.replicate n (0 : Int)).length (List.replicate n (0 : Int)).length, .int .i64 0]
    have e : (w.alloc (.cells (row (List.replicate n 0)) 88)).heap.size = w.heap.size + 1 := by simp
    rw [e] at h
    simpa using h
  · exact (Whole.new w 88 (row (List.replicate n 0))).alloc _
set_option maxHeartbeats 1000000 in
theorem rload_in {w : World} {p g : Nat} {xs : List Int} {c : Int} {n : Nat} (m : Ref w p g xs c) (h : n < xs.length) :
    Calls Tryz.prog 85 #[.pointer (some ⟨p, 0, none⟩), .int .i64 (n : Int)] w fun e w' => e = .returned (.int .u64 (xs.getD n 0)) ∧ Ref w' p g xs (wrap64 (c + 1)) ∧ Else [p, g] w w' := by
  obtain ⟨c0, c1⟩ := m.cells
  have f := m.top.frozen
  have hne := m.ne
  have d := m.cell h
  obtain ⟨x, hx⟩ : ∃ x, xs.getD n 0 = x := ⟨_, rfl⟩
  rw [hx] at d ⊢
  have h1 : (n : Int) < (xs.length : Int) := by omega
  have h0 : (0 : Int) ≤ (n : Int) := by omega
  have hm := Lib.hid m
  clear m hx
  go_enter Tryz.func85, Tryz.ntmps85
  go_wp2
  go_ret
  exact ⟨rfl, hm.out.count _, else_one⟩
set_option maxHeartbeats 1000000 in
theorem rstore_in {w : World} {p g : Nat} {xs : List Int} {c : Int} {n : Nat} (v : Int) (m : Ref w p g xs c) (h : n < xs.length) :
    Calls Tryz.prog 126 #[.pointer (some ⟨p, 0, none⟩), .int .i64 (n : Int), .int .u64 v] w fun e w' => e = .returned (.tuple #[]) ∧ Ref w' p g (xs.set n v) (wrap64 (c + 1)) ∧ Else [p, g] w w' := by
  obtain ⟨c0, c1⟩ := m.cells
  have f := m.top.frozen
  have fg := m.row.frozen
  have hne := m.ne
  have d := m.cell h
  obtain ⟨x, hx⟩ : ∃ x, xs.getD n 0 = x := ⟨_, rfl⟩
  rw [hx] at d
  have h1 : (n : Int) < (xs.length : Int) := by omega
  have h0 : (0 : Int) ≤ (n : Int) := by omega
  have hm := Lib.hid m
  clear m hx
  go_enter Tryz.func126, Tryz.ntmps126
  go_wp2
  go_end0
  exact ⟨rfl, (hm.out.count _).set _ _, else_two⟩
set_option maxHeartbeats 1000000 in
theorem rcas_yes {w : World} {p g : Nat} {xs : List Int} {c old : Int} {n : Nat} (v : Int) (m : Ref w p g xs c) (h : n < xs.length) (hx : xs.getD n 0 = old) :
    Calls Tryz.prog 124 #[.pointer (some ⟨p, 0, none⟩), .int .i64 (n : Int), .int .u64 old, .int .u64 v] w fun e w' => e = .returned (.bool true) ∧ Ref w' p g (xs.set n v) (wrap64 (c + 1)) ∧ Else [p, g] w w' := by
  obtain ⟨c0, c1⟩ := m.cells
  have f := m.top.frozen
  have fg := m.row.frozen
  have hne := m.ne
  have d := m.cell h
  rw [hx] at d
  have h1 : (n : Int) < (xs.length : Int) := by omega
  have h0 : (0 : Int) ≤ (n : Int) := by omega
  have hm := Lib.hid m
  clear m hx
  go_enter Tryz.func124, Tryz.ntmps124
  go_wp2
  go_ret
  exact ⟨rfl, (hm.out.count _).set _ _, else_two⟩
set_option maxHeartbeats 1000000 in
theorem rcas_no {w : World} {p g : Nat} {xs : List Int} {c old : Int} {n : Nat} (v : Int) (m : Ref w p g xs c) (h : n < xs.length) (hx : xs.getD n 0 ≠ old) :
    Calls Tryz.prog 124 #[.pointer (some ⟨p, 0, none⟩), .int .i64 (n : Int), .int .u64 old, .int .u64 v] w fun e w' => e = .returned (.bool false) ∧ Ref w' p g xs (wrap64 (c + 1)) ∧ Else [p, g] w w' := by
  obtain ⟨c0, c1⟩ := m.cells
  have f := m.top.frozen
  have fg := m.row.frozen
  have hne := m.ne
  have d := m.cell h
  obtain ⟨x, ex⟩ : ∃ x, xs.getD n 0 = x := ⟨_, rfl⟩
  rw [ex] at d hx
  have h1 : (n : Int) < (xs.length : Int) := by omega
  have h0 : (0 : Int) ≤ (n : Int) := by omega
  have hm := Lib.hid m
  clear m ex
  go_enter Tryz.func124, Tryz.ntmps124
  go_wp2
  go_ret
  exact ⟨rfl, hm.out.count _, else_one⟩
end Go.Proofs.YtkopplnjomkleaaGreat

/-
  The contracts of the document's own answers about heads, roots and pins (rundaleref1), in the words of package word's.
-/
namespace Go.Proofs.YtkopplnjomkleaaGreat
open W64 Go.RowKit

set_option maxHeartbeats 400000 in
theorem rin_any (n a b : Int) (w : World) :
    Calls Tryz.prog 145 #[.int .i64 n, .int .i64 a, .int .i64 b] w fun e w' => e = .returned (.bool (inB n a b)) ∧ w = w' := by
  go_enter Tryz.func145, Tryz.ntmps145
  go_wp2
  all_goals
    go_ret
    refine ⟨ret_bool ?_, rfl⟩
    unfold inB
    simp [*]
  all_goals omega

set_option maxHeartbeats 800000 in
theorem rputHead_yes (i t : Int) (w : World) (h : headB i t = true) :
    Calls Tryz.prog 121 #[.agg #[.int .i64 i, .int .i64 t]] w fun e w' => e = .returned (.tuple #[.int .u64 (headN i t), .bool true]) ∧ Up w w' := by
  obtain ⟨⟨i0, i1⟩, t0, t1⟩ := headB_iff.1 h
  clear h
  go_enter Tryz.func121, Tryz.ntmps121
  go_wp2
  go_ret2
  refine ⟨ret_two ?_, up_box _ _ 0⟩
  unfold headN; omega

set_option maxHeartbeats 800000 in
theorem rputHead_no (i t : Int) (w : World) (h : headB i t = false) :
    Calls Tryz.prog 121 #[.agg #[.int .i64 i, .int .i64 t]] w fun e w' => e = .returned (.tuple #[.int .u64 0, .bool false]) ∧ Up w w' := by
  have h' : ¬ ((-1 ≤ i ∧ i ≤ 4294967294) ∧ (0 ≤ t ∧ t ≤ 4294967295)) := by rw [← headB_iff, h]; simp
  clear h
  have h'' : i < -1 ∨ (-1 ≤ i ∧ 4294967295 ≤ i) ∨ (-1 ≤ i ∧ i < 4294967295 ∧ t < 0) ∨ (-1 ≤ i ∧ i < 4294967295 ∧ 0 ≤ t ∧ 4294967295 < t) := by omega
  clear h'
  rcases h'' with a | ⟨a, b⟩ | ⟨a, b, c⟩ | ⟨a, b, c, d⟩
  all_goals
    go_enter Tryz.func121, Tryz.ntmps121
    go_wp2
    go_ret2
    exact ⟨rfl, up_box _ _ 0⟩

set_option maxHeartbeats 400000 in
theorem rgetHead_any (x : Int) (w : World) (h0 : 0 ≤ x) (h1 : x < 18446744073709551616) :
    Calls Tryz.prog 105 #[.int .u64 x] w fun e w' => e = .returned (.agg #[.int .i64 (x % 4294967296 - 1), .int .i64 (x / 4294967296)]) ∧ Up w w' := by
  go_enter Tryz.func105, Tryz.ntmps105
  go_wp2
  refine bodyPost_ret (v := .agg #[.int .i64 (x % 4294967296 - 1), .int .i64 (x / 4294967296)]) (by simp [results, Tryz.results105, go_sem]) rfl ⟨rfl, ?_⟩
  exact up_box _ _ 0

set_option maxHeartbeats 400000 in
theorem rnext_exact (i t index : Int) (w : World) :
    Calls Tryz.prog 146 #[.agg #[.int .i64 i, .int .i64 t], .int .i64 index] w fun e w' => e = .returned (.agg #[.int .i64 index, .int .i64 (nextT t)]) ∧ (w.alloc (.cells #[.int .i64 i, .int .i64 t] 163)).alloc (.cells #[.int .i64 index, .int .i64 (nextT t)] 163) = w' := by
  by_cases c1 : t < 0
  · have e1 : nextT t = 0 := by unfold nextT; rw [inB_no.2 (.inl c1)]; rfl
    rw [e1]; clear e1
    go_enter Tryz.func146, Tryz.ntmps146
    go_wp2
    exact bodyPost_ret (v := .agg #[.int .i64 index, .int .i64 0]) (by simp [results, Tryz.results146, go_sem]) rfl ⟨rfl, rfl⟩
  · by_cases c2 : 4294967295 ≤ t
    · have e1 : nextT t = 0 := by unfold nextT; rw [inB_no.2 (.inr (by omega))]; rfl
      rw [e1]; clear e1
      go_enter Tryz.func146, Tryz.ntmps146
      go_wp2
      exact bodyPost_ret (v := .agg #[.int .i64 index, .int .i64 0]) (by simp [results, Tryz.results146, go_sem]) rfl ⟨rfl, rfl⟩
    · have e1 : nextT t = t + 1 := by unfold nextT; rw [inB_iff.2 ⟨by omega, by omega⟩]; rfl
      rw [e1]; clear e1
      go_enter Tryz.func146, Tryz.ntmps146
      go_wp2
      exact bodyPost_ret (v := .agg #[.int .i64 index, .int .i64 (t + 1)]) (by simp [results, Tryz.results146, go_sem]) rfl ⟨rfl, rfl⟩
theorem rnext_any (i t index : Int) (w : World) :
    Calls Tryz.prog 146 #[.agg #[.int .i64 i, .int .i64 t], .int .i64 index] w fun e w' => e = .returned (.agg #[.int .i64 index, .int .i64 (nextT t)]) ∧ Up w w' :=
  (rnext_exact i t index w).mono fun _ _ ⟨he, hw⟩ => ⟨he, hw ▸ up_box2 _ _ _⟩

theorem rputHead_any (i t : Int) (w : World) :
    Calls Tryz.prog 121 #[.agg #[.int .i64 i, .int .i64 t]] w fun e w' => e = .returned (.tuple #[.int .u64 (headV i t), .bool (headB i t)]) ∧ Up w w' := by
  unfold headV
  cases h : headB i t
  · exact rputHead_no i t w h
  · exact rputHead_yes i t w h
end Go.Proofs.YtkopplnjomkleaaGreat

/-
  Package stack: List.
-/
namespace Go.Proofs.YtkopplnjomkleaaGreat
open Go.RowKit
open W64
set_option maxRecDepth 100000

/-- The cells hold the stack S, from its top. -/
structure Holds (s : St) (hd ln n : Nat) (S : List Nat) : Prop where
  top : topN n (s.get hd) = Stk.linkOf S - 1
  link : ∀ j, j < S.length → belowN n (s.get (ln + (S.getD j 0 : Nat))) = Stk.linkOf (S.drop (j + 1)) - 1
  small : ∀ x ∈ S, x < n
  len : S.length ≤ n
theorem I_take {S : List Nat} {k : Nat} (h : k < S.length) : I (S.take (k + 1)) = I (S.take k) ++ [((S.getD k 0 : Nat) : Int)] := by
  rw [← Stk.take_more h]; simp [I]
section
variable {w : World} {p g q hd ln n : Nat} {s : St} {S : List Nat}
def ListRel (w : World) (S : List Nat) (v i : Value) (wr : World) : Prop := ∃ k : Nat, k ≤ S.length ∧ i = .int .i64 (Stk.linkOf (S.drop k) - 1) ∧ wr.ownsRow w.heap.size 3 1 v k ((I (S.take k)).map (Value.int .i64)) ∧ Up w wr
theorem list_step {wr wD : World} {v : Value} {k gg cap : Nat} (hk : k < S.length) (hown : wr.ownsRow w.heap.size 3 1 v k ((I (S.take k)).map (Value.int .i64))) (hu : Up w wr) {o : Obj}
    (hD : wD.ownsRow w.heap.size 3 1 (.slice (some ⟨gg, 0, none⟩) (k + 1) cap) (k + 1) ((I (S.take k)).map (Value.int .i64) ++ [.int .i64 ((S.getD k 0 : Nat) : Int)])) (hg : (wr.alloc o).grownBy wD v.ownBlock) :
    wD.ownsRow w.heap.size 3 1 (.slice (some ⟨gg, 0, none⟩) (k + 1) cap) (k + 1) ((I (S.take (k + 1))).map (Value.int .i64)) ∧ Up w wD := by
  refine ⟨by rw [I_take hk]; simpa using hD, (hu.then_alloc o).grown hg (own_ge hown)⟩
set_option maxHeartbeats 4000000 in
theorem list_in (E : Env w p g q hd ln n s) (H : Holds s hd ln n S) :
    Calls Tryz.prog 12 #[.pointer (some ⟨q, 0, none⟩)] w fun e w' => ∃ v, e = .returned v ∧ Ints w' v (I S) ∧ Fresh w v ∧ Up w w' := by
  obtain ⟨c0, c1, c2, c3⟩ := E.cells
  have n0 := E.n0
  have n1 := E.n1
  have hl := E.hl
  have ht := E.top
  have hk := E.ok hd
  have HE := Lib.hid E
  have HT := Lib.hid H.top
  have HHD := Lib.hid E.hasH
  have HH := Lib.hid H
  have hlen := H.len
  clear E H
  go_enter Tryz.func12, Tryz.ntmps12
  go_upto_region 2 with fail
  go_region_held3 (fun w' => w'.cell? ⟨q, 0, none⟩ = some (.pointer (some ⟨p, 0, none⟩)) ∧ w'.cell? ⟨q, 1, none⟩ = some (.int .i64 hd)) ((first | exact ⟨c0, c1⟩ | exact ⟨U1.kept c0, U1.kept c1⟩))
    (first
      | (go_at_call 51; refine (peek_in (HE.out.mem.up (up_drew w)) HHD.out).mono ?_; rintro e w9 ⟨rfl, rfl⟩)
      | (go_at_call 54; refine (ofHead_to (HE.out.up (up_drew w)) hk.1 hk.2 HT.out).mono ?_; rintro e w1 ⟨rfl, U1⟩))
  have HU := Lib.hid ((up_drew w).trans U1)
  clear U1 c0 c1 c2 c3
  go_wp2_with fail
  go_loopw [3, 4] (fun v i wr => ListRel w S v i wr) (fun v _ _ => S.length - nOf v)
  case atStart => exact ⟨0, Nat.zero_le _, rfl, World.ownsRow_nil _ _ _ _, HU.out⟩
  case round =>
    obtain ⟨k, hks, rfl, hown, hup⟩ := hrel
    obtain ⟨A, cp, rfl⟩ := own_slice hown
    have HEr := Lib.hid (HE.out.up hup)
    obtain ⟨c0, c1, c2, c3⟩ := HEr.out.cells
    have HO := Lib.hid hown
    have HUP := Lib.hid hup
    clear hown hup
    by_cases hlt : k < S.length
    · rw [Stk.linkOf_drop hlt, show (((S.getD k 0 : Nat) : Int) + 1 - 1) = ((S.getD k 0 : Nat) : Int) by omega]
      have hx := HH.out.small _ (Stk.getD_mem hlt)
      have hb := HH.out.link k hlt
      obtain ⟨x, ex⟩ : ∃ x, S.getD k 0 = x := ⟨_, rfl⟩
      rw [ex] at hx hb ⊢
      have HX := Lib.hid ex
      have HB := Lib.hid hb
      have hz := HE.out.ok (ln + x)
      have hh := Lib.hid (HE.out.hasL (i := x) (by omega) (by omega))
      clear ex hb
      have g1 : ((x : Int) == -1) = false := by simp
      have g2 : (k : Int) < (n : Int) := by omega
      have s3 : IntKind.i64.wrap ((ln : Int) + x) = ln + x := IntWalk.i64_in _ (by omega)
      obtain ⟨i9, hi, hz0, hz1, hz2⟩ := info_parts info_int
      have g63 : k + 1 ≤ maxLen := by unfold maxLen; omega
      have gby : (k + 1) * 8 ≤ 140737488355328 := by omega
      have gba : w.heap.size ≤ (wr.alloc (.cells #[.int .i64 (x : Int)] 3)).heap.size := by have := HUP.out.le; simp; omega
      go_upto_region 5 with (at_builtin; refine wpList_append_lies _ rfl _ _ 22 rfl w.heap.size 3 i9 (.int .i64 0) 1 8 Tryz.underlying22 hi hz0 hz1 hz2 rfl (by decide) (.slice A k cp) k ((I (S.take k)).map (Value.int .i64)) rfl (own_up HO.out (Up.alloc _ _)) ⟨wr.heap.size, 0, none⟩ 1 1 [.int .i64 (x : Int)] rfl rfl (one_new _ _ _) (by simp [Value.oneCell']) (by decide) g63 gby gba _ rfl ?_; intro gg cap2 wD hownD hgrow hat hltD)
      have HS := Lib.hid (list_step hlt HO.out HUP.out (by rw [HX.out]; exact hownD) hgrow)
      clear hownD hgrow c0 c1 c2 c3
      have HED := Lib.hid (HE.out.up HS.out.2)
      obtain ⟨c0, c1, c2, c3⟩ := HED.out.cells
      go_region_held3 (fun w' => w'.cell? ⟨q, 0, none⟩ = some (.pointer (some ⟨p, 0, none⟩)) ∧ w'.cell? ⟨q, 2, none⟩ = some (.int .i64 ln)) ((first | exact ⟨c0, c2⟩))
        (first
          | (go_at_call 51; refine (peek_in (HED.out.mem.up (up_drew wD)) hh.out).mono ?_; rintro e w9 ⟨rfl, rfl⟩)
          | (go_at_call 55; refine (ofLink_to (HED.out.up (up_drew wD)) hz.1 hz.2 HB.out).mono ?_; rintro e w9 ⟨rfl, rfl⟩))
      go_wp2_with fail
      go_roundw
      case rel => exact ⟨k + 1, by omega, rfl, own_up HS.out.1 (up_drew wD), HS.out.2.trans (up_drew wD)⟩
      case measure => simp [nOf]; omega
    · have e : S.take k = S := List.take_of_length_le (by omega)
      have e2 : S.length = k := by omega
      rw [Stk.linkOf_end (by omega)]
      have hc : (0 : Int) - 1 = -1 := by omega
      rw [hc]
      go_wp2_with fail
      go_ret
      refine ⟨_, rfl, ?_, own_ge HO.out, HUP.out⟩
      rw [e] at HO
      exact ints_of_own HO.out (by rw [I_len]; omega) rfl
end
end Go.Proofs.YtkopplnjomkleaaGreat

/-
  Package stack: Fill.
-/
namespace Go.Proofs.YtkopplnjomkleaaGreat
open Go.RowKit
open W64
set_option maxRecDepth 100000

/-- The links of the first k items are laid. -/
def fillK (s : St) (ln : Nat) : Nat → St
  | 0 => s
  | k + 1 => (fillK s ln k).lay ((ln : Int) + k) ((k : Int) + 2)
/-- The filled stack. -/
def fillS (s : St) (hd ln n : Nat) : St := ((fillK s ln (n - 1)).lay ((ln : Int) + n - 1) 0).lay hd 1
section
variable {w : World} {p g q hd ln n : Nat} {s : St}
theorem fillK_len (s : St) (ln : Nat) : ∀ k, (fillK s ln k).xs.length = s.xs.length
  | 0 => rfl
  | k + 1 => by unfold fillK; rw [lay_len, fillK_len s ln k]
theorem fillK_c (s : St) (ln : Nat) : ∀ k, (fillK s ln k).c = s.c
  | 0 => rfl
  | k + 1 => fillK_c s ln k
theorem fillK_ok {s : St} (h : s.Ok) (ln : Nat) : ∀ k, k ≤ 8192 → (fillK s ln k).Ok
  | 0, _ => h
  | k + 1, hk => (fillK_ok h ln k (by omega)).lay _ (by omega) (by omega)
def FillRel (w : World) (p g q hd ln n : Nat) (s : St) (i : Value) (wr : World) : Prop := ∃ k : Nat, k ≤ n - 1 ∧ i = .int .i64 k ∧ Env wr p g q hd ln n (fillK s ln k) ∧ Else [p, g] w wr
theorem fill_num {ln n k L : Nat} (h0 : 1 ≤ n) (h1 : n ≤ 4096) (hk : k ≤ n - 1) (h2 : ln + n ≤ L) (h3 : L ≤ 8388608) :
    IntKind.i64.wrap ((n : Int) - 1) = (n : Int) - 1 ∧ IntKind.i64.wrap ((ln : Int) + k) = ln + k ∧ IntKind.i64.wrap ((k : Int) + 1) = k + 1 ∧ IntKind.i64.wrap ((ln : Int) + n) = ln + n ∧ IntKind.i64.wrap ((ln : Int) + n - 1) = ln + n - 1 :=
  ⟨IntWalk.i64_in _ (by omega), IntWalk.i64_in _ (by omega), IntWalk.i64_in _ (by omega), IntWalk.i64_in _ (by omega), IntWalk.i64_in _ (by omega)⟩
theorem lay_to {w : World} {p g : Nat} {s s' : St} {i v : Int} (m : Mem w p g s) (h : s.has i) (hs : s.lay i v = s') :
    Calls Tryz.prog 48 #[.pointer (some ⟨p, 0, none⟩), .int .i64 i, .int .u64 v] w fun e w' => e = .returned (.int .i64 0) ∧ Mem w' p g s' ∧ Else [p, g] w w' := hs ▸ lay_in v m h
set_option maxHeartbeats 4000000 in
theorem fill_in (E : Env w p g q hd ln n s) :
    Calls Tryz.prog 75 #[.pointer (some ⟨q, 0, none⟩)] w fun e w' => e = .returned (.tuple #[]) ∧ Mem w' p g (fillS s hd ln n) ∧ Else [p, g] w w' := by
  obtain ⟨c0, c1, c2, c3⟩ := E.cells
  have n0 := E.n0
  have n1 := E.n1
  have hl := E.hl
  have ht := E.top
  have hok := Lib.hid E.ok
  have hq : q ∉ [p, g] := by simp [E.np, E.ng]
  have HE := Lib.hid E
  obtain ⟨s0, _, _, s3, s4⟩ := fill_num (k := 0) n0 n1 (Nat.zero_le _) hl ht
  clear E
  go_enter Tryz.func75, Tryz.ntmps75
  go_wp2_with fail
  go_loopw [10] (fun i wr => FillRel w p g q hd ln n s i wr) (fun i _ => n - (intOf i).toNat)
  case atStart => exact ⟨0, Nat.zero_le _, rfl, HE.out, Else.refl _ _⟩
  case round =>
    obtain ⟨k, hk, rfl, E1, X1⟩ := hrel
    have HE1 := Lib.hid E1
    have HX1 := Lib.hid X1
    clear E1 X1 c0 c1 c2 c3
    obtain ⟨c0, c1, c2, c3⟩ := HE1.out.cells
    by_cases hlt : k < n - 1
    · obtain ⟨_, s1, s2, _, _⟩ := fill_num n0 n1 hk hl ht
      have i1 : (k : Int) < (n : Int) - 1 := by omega
      have i0 : (0 : Int) ≤ (k : Int) := Int.natCast_nonneg _
      have e2 : (k : Int) + 1 + 1 = k + 2 := by omega
      have hh := Lib.hid (HE1.out.hasL (i := k) (by omega) (by omega))
      go_upto_region 3 with fail
      go_region_held3 (fun w' => w'.cell? ⟨q, 0, none⟩ = some (.pointer (some ⟨p, 0, none⟩)) ∧ w'.cell? ⟨q, 2, none⟩ = some (.int .i64 ln)) ((first | exact ⟨c0, c2⟩ | exact ⟨E5.kept c0 hq, E5.kept c2 hq⟩))
        (first
          | (go_at_call 118; refine (asLink_to e2 (by omega) (by omega) _).mono ?_; rintro e w9 ⟨rfl, rfl⟩)
          | (go_at_call 48; refine (lay_to (s' := fillK s ln (k + 1)) (HE1.out.mem.up (up_drew wr)) hh.out rfl).mono ?_; rintro e w5 ⟨rfl, M5, E5⟩))
      have HX := Lib.hid ((Else.of_up (up_drew wr)).trans E5)
      have HE5 := Lib.hid (HE1.out.turn M5 HX.out (fillK_ok hok.out ln (k + 1) (by omega)) (by rw [fillK_len, fillK_len]))
      clear M5 E5 c0 c1 c2 c3
      go_wp2_with fail
      go_roundw
      case rel => exact ⟨k + 1, by omega, by go_num, HE5.out, HX1.out.trans HX.out⟩
      case measure => simp [intOf]; omega
    · have hk2 : k = n - 1 := by omega
      have i1 : ¬ (k : Int) < (n : Int) - 1 := by omega
      have hh := Lib.hid (HE1.out.hasL (i := (n : Int) - 1) (by omega) (by omega))
      have e3 : (ln : Int) + ((n : Int) - 1) = ln + n - 1 := by omega
      rw [e3] at hh
      have e0 : (-1 : Int) + 1 = 0 := by omega
      have hB : headB 0 0 = true := by decide
      have hN : headN 0 0 = 1 := by decide
      have HB := Lib.hid hB
      have hp := putHead_yes 0 0
      have HPH := Lib.hid (fun w => hp w hB)
      rw [hN] at HPH
      have HK2 := Lib.hid hk2
      have HHD := Lib.hid HE1.out.hasH
      clear hB hN hp hk2
      go_upto_region 5 with fail
      go_region_held3 (fun w' => w'.cell? ⟨q, 0, none⟩ = some (.pointer (some ⟨p, 0, none⟩)) ∧ w'.cell? ⟨q, 2, none⟩ = some (.int .i64 ln) ∧ w'.cell? ⟨q, 3, none⟩ = some (.int .i64 n)) ((first | exact ⟨c0, c2, c3⟩ | exact ⟨E5.kept c0 hq, E5.kept c2 hq, E5.kept c3 hq⟩))
        (first
          | (go_at_call 118; refine (asLink_to e0 (by omega) (by omega) _).mono ?_; rintro e w9 ⟨rfl, rfl⟩)
          | (go_at_call 48; refine (lay_to (HE1.out.mem.up (up_drew wr)) hh.out rfl).mono ?_; rintro e w5 ⟨rfl, M5, E5⟩))
      have HX := Lib.hid ((Else.of_up (up_drew wr)).trans E5)
      have HE5 := Lib.hid (HE1.out.turn M5 HX.out ((fillK_ok hok.out ln k (by omega)).lay _ (by omega) (by omega)) (lay_len _ _ _))
      clear M5 E5 c0 c1 c2 c3
      obtain ⟨c0, c1, c2, c3⟩ := HE5.out.cells
      go_upto_region 7 with (go_at_call 119; refine (HPH.out _).mono ?_; rintro e w6 ⟨rfl, U6⟩)
      replace c0 := U6.kept c0
      replace c1 := U6.kept c1
      have HE6 := Lib.hid (HE5.out.up (U6.trans (up_drew w6)))
      have HX6 := Lib.hid (HX.out.up (U6.trans (up_drew w6)))
      clear c2 c3 U6
      have HHE := Lib.hid HE6.out.hasH
      go_region_held3 (fun w' => w'.cell? ⟨q, 0, none⟩ = some (.pointer (some ⟨p, 0, none⟩)) ∧ w'.cell? ⟨q, 1, none⟩ = some (.int .i64 hd)) ((first | exact ⟨c0, c1⟩ | exact ⟨E7.kept c0 hq, E7.kept c1 hq⟩))
        (first
          | (go_at_call 48; refine (lay_to HE6.out.mem HHE.out rfl).mono ?_; rintro e w7 ⟨rfl, M7, E7⟩))
      go_wp2_with fail
      go_end0
      refine ⟨rfl, ?_, (HX1.out.trans HX6.out).trans E7⟩
      rw [HK2.out] at M7
      exact M7
end
end Go.Proofs.YtkopplnjomkleaaGreat
