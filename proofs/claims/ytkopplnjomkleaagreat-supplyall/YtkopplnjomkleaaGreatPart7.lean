/-
  Texts beneath SupplyAll, part 7: StashPlay, OwnMore, Cells, CellsLaws, W64.
-/
import Derived.Test.YtkopplnjomkleaaGreatPart6
import Derived.OwnWalk
import Derived.WalkKit
import Derived.Laws.BitsAllLaws
/-
  StashPlays: Over told in one way, of both stashes; the reference's contracts as the statement uses them.
-/
namespace Go.Proofs.YtkopplnjomkleaaGreat
open Go.RowKit
set_option maxRecDepth 100000
section
variable {t : TypeId} {W w w1 w2 w' : World} {q p n K : Nat} {F F1 G : List Nat} {m a : Int} {xs ys zs : List Int} {v v' o : Value}
theorem sover_all (E : Sta 167 w q F m xs) (hK : ((xs.length : Int) - m).toNat = K) (hm : 0 ≤ m ∧ m ≤ 64) (hl : xs.length ≤ 8000) (hd : xs.drop K = ys) (ht : xs.take K = zs) :
    Calls Tryz.prog 61 #[.pointer (some ⟨q, 0, none⟩)] w fun e w' => ∃ A c, e = .returned (.slice A K c) ∧ STook 167 w w' q F m ys (.slice A K c) zs := by
  subst hd ht
  by_cases h : 0 < K
  · refine (sover_many E (K := K) (by omega) h hm.1 (by omega)).mono ?_
    rintro e w' ⟨A, rfl, T⟩
    exact ⟨A, K, rfl, T⟩
  · obtain rfl : K = 0 := by omega
    refine (sover_few E (by omega) hm.2).mono ?_
    rintro e w' ⟨rfl, U⟩
    exact ⟨none, 0, rfl, F, E.up U, Rd.nil _, fun b _ e => by simp [Value.ownBlock] at e, Next.refl _ _, fun b e => by simp [Value.ownBlock] at e, Else.of_up U⟩
theorem rsover_all (E : Sta 104 w q F m xs) (hK : ((xs.length : Int) - m).toNat = K) (hm : 0 ≤ m ∧ m ≤ 64) (hl : xs.length ≤ 8000) (hd : xs.drop K = ys) (ht : xs.take K = zs) :
    Calls Tryz.prog 96 #[.pointer (some ⟨q, 0, none⟩)] w fun e w' => ∃ A c, e = .returned (.slice A K c) ∧ STook 104 w w' q F m ys (.slice A K c) zs := by
  subst hd ht
  have hlen : (xs.take K).length = K := by rw [List.length_take]; omega
  by_cases h : (xs.length : Int) < m
  · obtain rfl : K = 0 := by omega
    refine (rsover_few E h hm hl).mono ?_
    rintro e w' ⟨o, rfl, T⟩
    obtain ⟨A, c, rfl⟩ := T.shape hlen
    exact ⟨A, c, rfl, T⟩
  · refine (rsover_many E (K := K) (by omega) hm.1 hl).mono ?_
    rintro e w' ⟨o, rfl, T⟩
    obtain ⟨A, c, rfl⟩ := T.shape hlen
    exact ⟨A, c, rfl, T⟩
theorem rsall_to (E : Sta 104 w q F m xs) (hn : xs.length = n) : Calls Tryz.prog 97 #[.pointer (some ⟨q, 0, none⟩)] w fun e w' => ∃ A c, e = .returned (.slice A n c) ∧ STook 104 w w' q F m [] (.slice A n c) xs := by
  refine (rsall_any E).mono ?_
  rintro e w' ⟨o, rfl, T⟩
  obtain ⟨A, c, rfl⟩ := T.shape hn
  exact ⟨A, c, rfl, T⟩
theorem rstake_to (E : Sta 104 w q F m xs) (h : xs = ys ++ [a]) (hl : ys.length ≤ 8000) : Calls Tryz.prog 122 #[.pointer (some ⟨q, 0, none⟩)] w fun e w' => e = .returned (.tuple #[.int .i64 a, .bool true]) ∧ SGave 104 w w' q F m ys := by
  subst h; exact rstake_some E hl
theorem rsnew_q (w : World) (a : Int) {m : Int} (h : cutM a = m) : Calls Tryz.prog 81 #[.int .i64 a] w fun e w' => ∃ q, e = .returned (.pointer (some ⟨q, 0, none⟩)) ∧ SMine 104 w w' q m [] [q] :=
  (rsnew_any w a).mono fun _ _ ⟨q, he, S, hq, U⟩ => ⟨q, he, ⟨h ▸ S, U, fun b hb => by simp at hb; omega⟩⟩
/-- The cell of a stash's slice. -/
theorem Sta.look (E : Sta t w q F m xs) (hn : xs.length = n) : ∃ A c, w.cell? ⟨q, 1, none⟩ = some (.slice A n c) ∧ Rd w (.slice A n c) xs := by
  obtain ⟨v, E⟩ := E
  obtain ⟨A, c, e⟩ := E.ints.slice
  rw [hn] at e
  subst e
  exact ⟨A, c, E.cells.2, E.ints.rd⟩
theorem IsRecs.do2 {a : Option Addr} {len cap i : Nat} {z : Nat → Nat → Value} (h : IsRecs [.i .i64, .s] w a len cap z) (hi : i < len) :
    ∃ b off kd it xs, a = some ⟨b, off, none⟩ ∧ b < w.heap.size ∧ w.cell? ⟨b, off + i * 2, none⟩ = some (.int .i64 kd) ∧ w.cell? ⟨b, off + i * 2 + 1, none⟩ = some it ∧ Rd w it xs := by
  obtain ⟨b, off, ha, hb, hc⟩ := h.at (by simp) (by omega)
  obtain ⟨c0, n0, e0, w0⟩ := hc i hi 0 _ rfl
  obtain ⟨c1, xs, e1⟩ := hc i hi 1 _ rfl
  rw [e0] at c0
  exact ⟨b, off, n0, _, xs, ha, hb, c0, c1, e1⟩
theorem app_new {v5 : Value} {w5 : World} (G5 : w.grownBy w5 (Value.slice none 0 0).ownBlock) (A5 : v5.ownBlock = (Value.slice none 0 0).ownBlock ∨ v5.ownBlock = some w.heap.size) : Up w w5 ∧ Fresh w v5 :=
  ⟨up_app (Up.refl w) G5 (fresh_nil _), fresh_app (fresh_nil w) (Nat.le_refl _) A5⟩
def PlayRel (W : World) (q p : Nat) (m : Int) (len : Nat) (i : Value) (w : World) : Prop :=
  ∃ (k : Nat) (xs : List Int) (F G : List Nat), i = .int .i64 k ∧ k ≤ len ∧ xs.length ≤ 40 * k ∧ Pair 167 104 W w q p m m xs xs F G
end
end Go.Proofs.YtkopplnjomkleaaGreat

/-
  Blocks of unlike types are two. No program is named here.
-/
namespace Go.Proofs.YtkopplnjomkleaaGreat
open Go.RowKit
theorem Whole.ne_type {w : World} {a b : Nat} {t s : TypeId} {x y : Array Value} (h : Whole w a t x) (k : Whole w b s y) (hne : t ≠ s) : a ≠ b := by
  intro e
  subst e
  unfold Whole at h k
  rw [h] at k
  injection k with k
  injection k with _ k
  exact hne k
end Go.Proofs.YtkopplnjomkleaaGreat

/-
  Package cells: what a memory is, told by a list of words and the last access (St); Mem: it lies in the world; each method's contract.
-/
namespace Go.Proofs.YtkopplnjomkleaaGreat
open Go.RowKit

/-- A memory: what its cells hold, how many accesses there were, the last one. -/
structure St where
  xs : List Int
  c : Int
  k : Int
  a : Int
  o : Int
  v : Int
  y : Bool
def St.zero (n : Nat) : St := ⟨List.replicate n 0, 0, 0, 0, 0, 0, false⟩
def St.get (s : St) (i : Int) : Int := s.xs.getD i.toNat 0
def St.hit (s : St) (k i v : Int) (y : Bool) : St := ⟨s.xs.set i.toNat v, wrap64 (s.c + 1), k, i, s.get i, v, y⟩
def St.lay (s : St) (i v : Int) : St := { s with xs := s.xs.set i.toNat v }
def St.last (s : St) : Value := .agg #[.int .i64 s.k, .int .i64 s.a, .int .u64 s.o, .int .u64 s.v, .bool s.y]
def St.has (s : St) (i : Int) : Prop := 0 ≤ i ∧ i < s.xs.length
def row (xs : List Int) : Array Value := (xs.map (Value.int .u64)).toArray
/-- The memory s lies at p, its cells at g. -/
structure Mem (w : World) (p g : Nat) (s : St) : Prop where
  top : Whole w p 120 #[.slice (some ⟨g, 0, none⟩) s.xs.length s.xs.length, .int .i64 s.c, .int .i64 s.k, .int .i64 s.a, .int .u64 s.o, .int .u64 s.v, .bool s.y]
  row : Whole w g 88 (row s.xs)
  ne : p ≠ g

theorem row_get {xs : List Int} {i : Nat} (h : i < xs.length) : (row xs)[i]? = some (.int .u64 (xs.getD i 0)) := by
  simp [row, List.getD, h]
theorem row_set (xs : List Int) (i : Nat) (v : Int) : (row xs).setIfInBounds i (.int .u64 v) = row (xs.set i v) := by
  simp [row, List.map_set]
theorem Mem.up {w w' : World} {p g : Nat} {s : St} (h : Mem w p g s) (u : Up w w') : Mem w' p g s := ⟨h.top.up u, h.row.up u, h.ne⟩
theorem Mem.else {w w' : World} {p g : Nat} {s : St} {l : List Nat} (h : Mem w p g s) (u : Else l w w') (hp : p ∉ l) (hg : g ∉ l) : Mem w' p g s := ⟨u.whole h.top hp, u.whole h.row hg, h.ne⟩

set_option maxHeartbeats 400000 in
theorem has_in {w : World} {p g : Nat} {s : St} {i : Int} (m : Mem w p g s) (h : s.has i) :
    Calls Tryz.prog 100 #[.pointer (some ⟨p, 0, none⟩), .int .i64 i] w fun e w' => e = .returned (.bool true) ∧ w = w' := by
  have c0 := m.top.cell (i := 0) rfl
  obtain ⟨h0, h1⟩ := h
  go_enter Tryz.func100, Tryz.ntmps100
  go_wp2
  go_ret
  exact ⟨rfl, rfl⟩
set_option maxHeartbeats 400000 in
theorem has_out {w : World} {p g : Nat} {s : St} {i : Int} (m : Mem w p g s) (h : ¬ s.has i) :
    Calls Tryz.prog 100 #[.pointer (some ⟨p, 0, none⟩), .int .i64 i] w fun e w' => e = .returned (.bool false) ∧ w = w' := by
  have c0 := m.top.cell (i := 0) rfl
  by_cases h0 : 0 ≤ i
  · have h1 : ¬ i < s.xs.length := fun h' => h ⟨h0, h'⟩
    go_enter Tryz.func100, Tryz.ntmps100
    go_wp2
    go_ret
    exact ⟨rfl, rfl⟩
  · go_enter Tryz.func100, Tryz.ntmps100
    go_wp2
    go_ret
    exact ⟨rfl, rfl⟩
theorem Mem.cells {w : World} {p g : Nat} {s : St} (m : Mem w p g s) :
    w.cell? ⟨p, 0, none⟩ = some (.slice (some ⟨g, 0, none⟩) s.xs.length s.xs.length) ∧ w.cell? ⟨p, 1, none⟩ = some (.int .i64 s.c) ∧ w.cell? ⟨p, 2, none⟩ = some (.int .i64 s.k) ∧
    w.cell? ⟨p, 3, none⟩ = some (.int .i64 s.a) ∧ w.cell? ⟨p, 4, none⟩ = some (.int .u64 s.o) ∧ w.cell? ⟨p, 5, none⟩ = some (.int .u64 s.v) ∧ w.cell? ⟨p, 6, none⟩ = some (.bool s.y) :=
  ⟨m.top.cell rfl, m.top.cell rfl, m.top.cell rfl, m.top.cell rfl, m.top.cell rfl, m.top.cell rfl, m.top.cell rfl⟩
theorem Mem.cell {w : World} {p g : Nat} {s : St} (m : Mem w p g s) {n : Nat} (h : s.has n) : w.cell? ⟨g, n, none⟩ = some (.int .u64 (s.get n)) :=
  m.row.cell (row_get (by have := h.2; omega))
/-- What a stroke leaves. -/
theorem Mem.hit {w : World} {p g : Nat} {s : St} (m : Mem w p g s) (k : Int) (n : Nat) (v x : Int) (y : Bool) (hx : x = s.get n) :
    Mem (((((((w.setCell ⟨p, 2, none⟩ (.int .i64 k)).setCell ⟨p, 3, none⟩ (.int .i64 n)).setCell ⟨p, 4, none⟩ (.int .u64 x)).setCell ⟨p, 5, none⟩ (.int .u64 v)).setCell ⟨p, 6, none⟩ (.bool y)).setCell ⟨p, 1, none⟩ (.int .i64 (wrap64 (s.c + 1)))).setCell ⟨g, n, none⟩ (.int .u64 v)) p g (s.hit k n v y) := by
  subst hx
  have ne := m.ne
  refine ⟨?_, ?_, ne⟩
  · have h := (((((m.top.set 2 (.int .i64 k)).set 3 (.int .i64 n)).set 4 (.int .u64 (s.get n))).set 5 (.int .u64 v)).set 6 (.bool y)).set 1 (.int .i64 (wrap64 (s.c + 1)))
    have h2 := h.far (p := ⟨g, n, none⟩) ne (.int .u64 v)
    have e : (s.hit k n v y).xs.length = s.xs.length := by simp [St.hit]
    rw [e]; exact h2
  · have h := ((((((m.row.far (p := ⟨p, 2, none⟩) ne.symm (.int .i64 k)).far (p := ⟨p, 3, none⟩) ne.symm (.int .i64 n)).far (p := ⟨p, 4, none⟩) ne.symm (.int .u64 (s.get n))).far (p := ⟨p, 5, none⟩) ne.symm (.int .u64 v)).far (p := ⟨p, 6, none⟩) ne.symm (.bool y)).far (p := ⟨p, 1, none⟩) ne.symm (.int .i64 (wrap64 (s.c + 1)))).set n (.int .u64 v)
    rw [row_set] at h; exact h
theorem else_hit {w : World} {p g : Nat} {q1 q2 q3 q4 q5 q6 q7 : Nat} {u1 u2 u3 u4 u5 u6 u7 : Value} :
    Else [p, g] w (((((((w.setCell ⟨p, q1, none⟩ u1).setCell ⟨p, q2, none⟩ u2).setCell ⟨p, q3, none⟩ u3).setCell ⟨p, q4, none⟩ u4).setCell ⟨p, q5, none⟩ u5).setCell ⟨p, q6, none⟩ u6).setCell ⟨g, q7, none⟩ u7) :=
  (((((((Else.refl [p, g] w).set (.inl (by simp)) _).set (.inl (by simp)) _).set (.inl (by simp)) _).set (.inl (by simp)) _).set (.inl (by simp)) _).set (.inl (by simp)) _).set (.inl (by simp)) _

set_option maxHeartbeats 1000000 in
theorem stroke_in {w : World} {p g : Nat} {s : St} {i : Int} (k v : Int) (y : Bool) (m : Mem w p g s) (h : s.has i) :
    Calls Tryz.prog 137 #[.pointer (some ⟨p, 0, none⟩), .int .i64 k, .int .i64 i, .int .u64 v, .bool y] w fun e w' => e = .returned (.tuple #[]) ∧ Mem w' p g (s.hit k i v y) ∧ Else [p, g] w w' := by
  obtain ⟨c0, c1, c2, c3, c4, c5, c6⟩ := m.cells
  have f := m.top.frozen
  have fg := m.row.frozen
  have hne := m.ne
  have hh := Lib.hid h
  obtain ⟨h0, h1⟩ := h
  obtain ⟨n, rfl⟩ := Int.eq_ofNat_of_zero_le h0
  have d := m.cell hh.out
  obtain ⟨x, hx⟩ : ∃ x, x = s.get n := ⟨_, rfl⟩
  rw [← hx] at d
  have hx := Lib.hid hx
  have hm := Lib.hid m
  clear m
  go_enter Tryz.func137, Tryz.ntmps137
  go_wp2
  go_end0
  exact ⟨rfl, hm.out.hit k n v _ y rfl, else_hit⟩

set_option maxHeartbeats 1000000 in
theorem load_in {w : World} {p g : Nat} {s : St} {i : Int} (m : Mem w p g s) (h : s.has i) :
    Calls Tryz.prog 110 #[.pointer (some ⟨p, 0, none⟩), .int .i64 i] w fun e w' => e = .returned (.tuple #[.int .u64 (s.get i), .int .i64 0]) ∧ Mem w' p g (s.hit 1 i (s.get i) true) ∧ Else [p, g] w w' := by
  have c0 := m.top.cell (i := 0) rfl
  have hh := Lib.hid h
  obtain ⟨h0, h1⟩ := h
  obtain ⟨n, rfl⟩ := Int.eq_ofNat_of_zero_le h0
  have d := m.cell hh.out
  have hm := Lib.hid m
  clear m
  go_enter Tryz.func110, Tryz.ntmps110
  go_wp2_with (first
    | (go_at_call 100; refine (has_in hm.out hh.out).mono ?_; rintro e w' ⟨rfl, rfl⟩)
    | (go_at_call 137; refine (stroke_in _ _ _ hm.out hh.out).mono ?_; rintro e w' ⟨rfl, M1, E1⟩))
  go_ret2
  exact ⟨rfl, M1, E1⟩
theorem load_out {w : World} {p g : Nat} {s : St} {i : Int} (m : Mem w p g s) (h : ¬ s.has i) :
    Calls Tryz.prog 110 #[.pointer (some ⟨p, 0, none⟩), .int .i64 i] w fun e w' => e = .returned (.tuple #[.int .u64 0, .int .i64 1]) ∧ w = w' := by
  have hm := Lib.hid m
  clear m
  go_enter Tryz.func110, Tryz.ntmps110
  go_wp2_with ((go_at_call 100; refine (has_out hm.out h).mono ?_; rintro e w' ⟨rfl, rfl⟩))
  go_ret2
  exact ⟨rfl, rfl⟩
set_option maxHeartbeats 1000000 in
theorem store_in {w : World} {p g : Nat} {s : St} {i : Int} (v : Int) (m : Mem w p g s) (h : s.has i) :
    Calls Tryz.prog 159 #[.pointer (some ⟨p, 0, none⟩), .int .i64 i, .int .u64 v] w fun e w' => e = .returned (.int .i64 0) ∧ Mem w' p g (s.hit 2 i v true) ∧ Else [p, g] w w' := by
  have hh := Lib.hid h
  have hm := Lib.hid m
  clear m h
  go_enter Tryz.func159, Tryz.ntmps159
  go_wp2_with (first
    | (go_at_call 100; refine (has_in hm.out hh.out).mono ?_; rintro e w' ⟨rfl, rfl⟩)
    | (go_at_call 137; refine (stroke_in _ _ _ hm.out hh.out).mono ?_; rintro e w' ⟨rfl, M1, E1⟩))
  go_ret
  exact ⟨rfl, M1, E1⟩
theorem store_out {w : World} {p g : Nat} {s : St} {i : Int} (v : Int) (m : Mem w p g s) (h : ¬ s.has i) :
    Calls Tryz.prog 159 #[.pointer (some ⟨p, 0, none⟩), .int .i64 i, .int .u64 v] w fun e w' => e = .returned (.int .i64 1) ∧ w = w' := by
  have hm := Lib.hid m
  clear m
  go_enter Tryz.func159, Tryz.ntmps159
  go_wp2_with ((go_at_call 100; refine (has_out hm.out h).mono ?_; rintro e w' ⟨rfl, rfl⟩))
  go_ret
  exact ⟨rfl, rfl⟩
set_option maxHeartbeats 1000000 in
theorem cas_yes {w : World} {p g : Nat} {s : St} {i old : Int} (v : Int) (m : Mem w p g s) (h : s.has i) (hv : s.get i = old) :
    Calls Tryz.prog 163 #[.pointer (some ⟨p, 0, none⟩), .int .i64 i, .int .u64 old, .int .u64 v] w fun e w' => e = .returned (.tuple #[.bool true, .int .i64 0]) ∧ Mem w' p g (s.hit 3 i v true) ∧ Else [p, g] w w' := by
  have c0 := m.top.cell (i := 0) rfl
  have hh := Lib.hid h
  obtain ⟨h0, h1⟩ := h
  obtain ⟨n, rfl⟩ := Int.eq_ofNat_of_zero_le h0
  have d := m.cell hh.out
  rw [hv] at d
  have hm := Lib.hid m
  clear m hv
  go_enter Tryz.func163, Tryz.ntmps163
  go_wp2_with (first
    | (go_at_call 100; refine (has_in hm.out hh.out).mono ?_; rintro e w' ⟨rfl, rfl⟩)
    | (go_at_call 137; refine (stroke_in _ _ _ hm.out hh.out).mono ?_; rintro e w' ⟨rfl, M1, E1⟩))
  go_ret2
  exact ⟨rfl, M1, E1⟩
set_option maxHeartbeats 1000000 in
theorem cas_no {w : World} {p g : Nat} {s : St} {i old : Int} (v : Int) (m : Mem w p g s) (h : s.has i) (hv : s.get i ≠ old) :
    Calls Tryz.prog 163 #[.pointer (some ⟨p, 0, none⟩), .int .i64 i, .int .u64 old, .int .u64 v] w fun e w' => e = .returned (.tuple #[.bool false, .int .i64 0]) ∧ Mem w' p g (s.hit 3 i (s.get i) false) ∧ Else [p, g] w w' := by
  have c0 := m.top.cell (i := 0) rfl
  have hh := Lib.hid h
  obtain ⟨h0, h1⟩ := h
  obtain ⟨n, rfl⟩ := Int.eq_ofNat_of_zero_le h0
  have d := m.cell hh.out
  have hm := Lib.hid m
  clear m
  go_enter Tryz.func163, Tryz.ntmps163
  go_wp2_with (first
    | (go_at_call 100; refine (has_in hm.out hh.out).mono ?_; rintro e w' ⟨rfl, rfl⟩)
    | (go_at_call 137; refine (stroke_in _ _ _ hm.out hh.out).mono ?_; rintro e w' ⟨rfl, M1, E1⟩))
  go_ret2
  exact ⟨rfl, M1, E1⟩
theorem cas_out {w : World} {p g : Nat} {s : St} {i : Int} (old v : Int) (m : Mem w p g s) (h : ¬ s.has i) :
    Calls Tryz.prog 163 #[.pointer (some ⟨p, 0, none⟩), .int .i64 i, .int .u64 old, .int .u64 v] w fun e w' => e = .returned (.tuple #[.bool false, .int .i64 1]) ∧ w = w' := by
  have hm := Lib.hid m
  clear m
  go_enter Tryz.func163, Tryz.ntmps163
  go_wp2_with ((go_at_call 100; refine (has_out hm.out h).mono ?_; rintro e w' ⟨rfl, rfl⟩))
  go_ret2
  exact ⟨rfl, rfl⟩
set_option maxHeartbeats 1000000 in
theorem peek_in {w : World} {p g : Nat} {s : St} {i : Int} (m : Mem w p g s) (h : s.has i) :
    Calls Tryz.prog 51 #[.pointer (some ⟨p, 0, none⟩), .int .i64 i] w fun e w' => e = .returned (.int .u64 (s.get i)) ∧ w = w' := by
  have c0 := m.top.cell (i := 0) rfl
  have hh := Lib.hid h
  obtain ⟨h0, h1⟩ := h
  obtain ⟨n, rfl⟩ := Int.eq_ofNat_of_zero_le h0
  have d := m.cell hh.out
  have hm := Lib.hid m
  clear m
  go_enter Tryz.func51, Tryz.ntmps51
  go_wp2_with ((go_at_call 100; refine (has_in hm.out hh.out).mono ?_; rintro e w' ⟨rfl, rfl⟩))
  go_ret
  exact ⟨rfl, rfl⟩
theorem peek_out {w : World} {p g : Nat} {s : St} {i : Int} (m : Mem w p g s) (h : ¬ s.has i) :
    Calls Tryz.prog 51 #[.pointer (some ⟨p, 0, none⟩), .int .i64 i] w fun e w' => e = .returned (.int .u64 0) ∧ w = w' := by
  have hm := Lib.hid m
  clear m
  go_enter Tryz.func51, Tryz.ntmps51
  go_wp2_with ((go_at_call 100; refine (has_out hm.out h).mono ?_; rintro e w' ⟨rfl, rfl⟩))
  go_ret
  exact ⟨rfl, rfl⟩
theorem Mem.lay {w : World} {p g : Nat} {s : St} (m : Mem w p g s) (n : Nat) (v : Int) : Mem (w.setCell ⟨g, n, none⟩ (.int .u64 v)) p g (s.lay n v) := by
  refine ⟨?_, ?_, m.ne⟩
  · have h := m.top.far (p := ⟨g, n, none⟩) m.ne (.int .u64 v)
    have e : (s.lay n v).xs.length = s.xs.length := by simp [St.lay]
    rw [e]; exact h
  · have h := m.row.set n (.int .u64 v)
    rw [row_set] at h; exact h
set_option maxHeartbeats 1000000 in
theorem lay_in {w : World} {p g : Nat} {s : St} {i : Int} (v : Int) (m : Mem w p g s) (h : s.has i) :
    Calls Tryz.prog 48 #[.pointer (some ⟨p, 0, none⟩), .int .i64 i, .int .u64 v] w fun e w' => e = .returned (.int .i64 0) ∧ Mem w' p g (s.lay i v) ∧ Else [p, g] w w' := by
  have c0 := m.top.cell (i := 0) rfl
  have fg := m.row.frozen
  have hh := Lib.hid h
  obtain ⟨h0, h1⟩ := h
  obtain ⟨n, rfl⟩ := Int.eq_ofNat_of_zero_le h0
  have d := m.cell hh.out
  have hm := Lib.hid m
  clear m
  go_enter Tryz.func48, Tryz.ntmps48
  go_wp2_with ((go_at_call 100; refine (has_in hm.out hh.out).mono ?_; rintro e w' ⟨rfl, rfl⟩))
  go_ret
  exact ⟨rfl, hm.out.lay n v, (Else.refl [p, g] w).set (.inl (by simp)) _⟩
theorem lay_out {w : World} {p g : Nat} {s : St} {i : Int} (v : Int) (m : Mem w p g s) (h : ¬ s.has i) :
    Calls Tryz.prog 48 #[.pointer (some ⟨p, 0, none⟩), .int .i64 i, .int .u64 v] w fun e w' => e = .returned (.int .i64 1) ∧ w = w' := by
  have hm := Lib.hid m
  clear m
  go_enter Tryz.func48, Tryz.ntmps48
  go_wp2_with ((go_at_call 100; refine (has_out hm.out h).mono ?_; rintro e w' ⟨rfl, rfl⟩))
  go_ret
  exact ⟨rfl, rfl⟩
theorem count_any {w : World} {p g : Nat} {s : St} (m : Mem w p g s) :
    Calls Tryz.prog 27 #[.pointer (some ⟨p, 0, none⟩)] w fun e w' => e = .returned (.int .i64 s.c) ∧ w = w' := by
  have c1 := m.cells.2.1
  go_enter Tryz.func27, Tryz.ntmps27
  go_wp2
  go_ret
  exact ⟨rfl, rfl⟩
theorem len_any {w : World} {p g : Nat} {s : St} (m : Mem w p g s) :
    Calls Tryz.prog 72 #[.pointer (some ⟨p, 0, none⟩)] w fun e w' => e = .returned (.int .i64 s.xs.length) ∧ w = w' := by
  have c0 := m.cells.1
  go_enter Tryz.func72, Tryz.ntmps72
  go_wp2
  go_ret
  exact ⟨rfl, rfl⟩
theorem made_row (n : Nat) : madeCells (Value.int .u64 0).cells (n * 1) = row (List.replicate n 0) := by
  apply Array.ext
  · simp [madeCells, row]
  · intro i h1 h2
    simp [madeCells, row, Value.cells, Nat.mod_one]
theorem info_u64 : (Tryz.prog.info? 88).map (fun i => (i.zero, i.size, i.bytes)) = some (some (.int .u64 0), 1, 8) := by kernel_rfl
theorem run_row (n : Nat) (h : n ≤ 8388608) (w : World) : (Instr.makeSlice 89 (.int .i64 (n : Int)) (.int .i64 (n : Int))).run Tryz.prog w = .ok (.slice (some ⟨w.heap.size, 0, none⟩) n n) (w.alloc (.cells (row (List.replicate n 0)) 88)) := by
  obtain ⟨i, hi, hz0, hz1, hz2⟩ := info_parts info_u64
  have := run_make (P := Tryz.prog) w 89 88 i _ Tryz.underlying89 hi hz0 .i64 .i64 n n (by omega) (by omega) (by rw [hz2]; omega) (by omega)
  rw [this, hz1, made_row]; rfl
set_option maxHeartbeats 1000000 in
theorem new_in (n : Nat) (h0 : 1 ≤ n) (h1 : n ≤ 8388608) (w : World) :
    Calls Tryz.prog 20 #[.int .i64 (n : Int)] w fun e w' => e = .returned (.tuple #[.pointer (some ⟨w.heap.size + 1, 0, none⟩), .int .i64 0]) ∧ Mem w' (w.heap.size + 1) w.heap.size (St.zero n) ∧ Up w w' := by
  have hr := run_row n h1
  have b0 : (1 : Int) ≤ (n : Int) := by omega
  have b1 : (n : Int) ≤ 8388608 := by omega
  go_enter Tryz.func20, Tryz.ntmps20
  go_wp2
  go_ret2
  refine ⟨rfl, ⟨?_, ?_, by omega⟩, ((Up.refl _).then_alloc _).then_alloc _⟩
  · have h := Whole.new (w.alloc (.cells (row (List.replicate n 0)) 88)) 120 #[.slice (some ⟨w.heap.size, 0, none⟩) (St.zero n).xs.length (St.zero n).xs.length, .int .i64 0, .int .i64 0, .int .i64 0, .int .u64 0, .int .u64 0, .bool false]
    have e : (w.alloc (.cells (row (List.replicate n 0)) 88)).heap.size = w.heap.size + 1 := by simp
    rw [e] at h
    simpa [St.zero] using h
  · exact (Whole.new w 88 (row (List.replicate n 0))).alloc _
theorem new_out {i : Int} (h : i < 1 ∨ 8388608 < i) (w : World) :
    Calls Tryz.prog 20 #[.int .i64 i] w fun e w' => e = .returned (.tuple #[.pointer none, .int .i64 1]) ∧ w = w' := by
  by_cases h0 : i < 1
  · go_enter Tryz.func20, Tryz.ntmps20
    go_wp2
    go_ret2
    exact ⟨rfl, rfl⟩
  · have h1 : 8388608 < i := by omega
    go_enter Tryz.func20, Tryz.ntmps20
    go_wp2
    go_ret2
    exact ⟨rfl, rfl⟩
end Go.Proofs.YtkopplnjomkleaaGreat

/-
  The statements' own first of layer 5; the contracts of Cells with the answer and what is left told by equations.
-/
namespace Go.Proofs.YtkopplnjomkleaaGreat
open Go.RowKit

theorem new_is {n : Nat} {i : Int} (hi : i = n) (h0 : 1 ≤ n) (h1 : n ≤ 8388608) (w : World) :
    Calls Tryz.prog 20 #[.int .i64 i] w fun e w' => e = .returned (.tuple #[.pointer (some ⟨w.heap.size + 1, 0, none⟩), .int .i64 0]) ∧ Mem w' (w.heap.size + 1) w.heap.size (St.zero n) ∧ Up w w' := by
  subst hi; exact new_in n h0 h1 w
theorem wrap_small {n : Int} (h0 : 0 ≤ n) (h1 : n < 18446744073709551616) : IntKind.u64.wrap n = n := IntWalk.u64_in n (by omega)

theorem first_s1 : (St.zero 2).hit 4 1 (IntKind.u64.wrap (0 + 5)) true = ⟨[0, 5], 1, 4, 1, 0, 5, true⟩ := by
  rw [wrap_small (by decide) (by decide)]
  unfold St.hit
  rw [IntWalk.wrap64_in _ (by decide)]; rfl
theorem first_s2 : (⟨[0, 5], 1, 4, 1, 0, 5, true⟩ : St).hit 4 1 (IntKind.u64.wrap (5 + 3)) true = ⟨[0, 8], 2, 4, 1, 5, 8, true⟩ := by
  rw [wrap_small (by decide) (by decide)]
  unfold St.hit
  rw [IntWalk.wrap64_in _ (by decide)]; rfl
theorem count_to {w : World} {p g : Nat} {s : St} {x : Int} (m : Mem w p g s) (hx : s.c = x) :
    Calls Tryz.prog 27 #[.pointer (some ⟨p, 0, none⟩)] w fun e w' => e = .returned (.int .i64 x) ∧ w = w' := by
  subst hx; exact count_any m
theorem len_to {w : World} {p g : Nat} {s : St} {x : Int} (m : Mem w p g s) (hx : (s.xs.length : Int) = x) :
    Calls Tryz.prog 72 #[.pointer (some ⟨p, 0, none⟩)] w fun e w' => e = .returned (.int .i64 x) ∧ w = w' := by
  subst hx; exact len_any m
theorem peek_to {w : World} {p g : Nat} {s : St} {i x : Int} (m : Mem w p g s) (h : s.has i) (hx : s.get i = x) :
    Calls Tryz.prog 51 #[.pointer (some ⟨p, 0, none⟩), .int .i64 i] w fun e w' => e = .returned (.int .u64 x) ∧ w = w' := by
  subst hx; exact peek_in m h
theorem load_to {w : World} {p g : Nat} {s s' : St} {i x : Int} (m : Mem w p g s) (h : s.has i) (hx : s.get i = x) (hs : s.hit 1 i x true = s') :
    Calls Tryz.prog 110 #[.pointer (some ⟨p, 0, none⟩), .int .i64 i] w fun e w' => e = .returned (.tuple #[.int .u64 x, .int .i64 0]) ∧ Mem w' p g s' ∧ Else [p, g] w w' := by
  subst hx hs; exact load_in m h
theorem store_to {w : World} {p g : Nat} {s s' : St} {i v : Int} (m : Mem w p g s) (h : s.has i) (hs : s.hit 2 i v true = s') :
    Calls Tryz.prog 159 #[.pointer (some ⟨p, 0, none⟩), .int .i64 i, .int .u64 v] w fun e w' => e = .returned (.int .i64 0) ∧ Mem w' p g s' ∧ Else [p, g] w w' := by
  subst hs; exact store_in v m h
theorem one_is : (1 : Int) = ((1 : Nat) : Int) := rfl
theorem five_is : (5 : Int) = ((5 : Nat) : Int) := rfl
theorem zero_c (n : Nat) : (St.zero n).c = 0 := rfl
theorem two_is : (2 : Int) = ((2 : Nat) : Int) := rfl
theorem first_h1 : (St.zero 2).has 1 := by constructor <;> decide
theorem first_h2 : (⟨[0, 5], 1, 4, 1, 0, 5, true⟩ : St).has 1 := by constructor <;> decide
theorem first_g1 : (St.zero 2).get 1 = 0 := rfl
theorem first_g2 : (⟨[0, 5], 1, 4, 1, 0, 5, true⟩ : St).get 1 = 5 := rfl
theorem first_l : (⟨[0, 8], 2, 4, 1, 5, 8, true⟩ : St).last = .agg #[.int .i64 4, .int .i64 1, .int .u64 5, .int .u64 8, .bool true] := rfl
theorem first_c : (⟨[0, 8], 2, 4, 1, 5, 8, true⟩ : St).c = 2 := rfl
theorem first_n : ((⟨[0, 8], 2, 4, 1, 5, 8, true⟩ : St).xs.length : Int) = 2 := rfl
end Go.Proofs.YtkopplnjomkleaaGreat

/-
  Plain facts on words of 64 bits: the model's integers of kind u64 as bit vectors. No program is named here.
-/
namespace Go.Proofs.YtkopplnjomkleaaGreat.W64

/-- A word's number. -/
def U (x : BitVec 64) : Int := (x.toNat : Int)

theorem U_nonneg (x : BitVec 64) : 0 ≤ U x := Int.natCast_nonneg _
theorem U_lt (x : BitVec 64) : U x < 18446744073709551616 := by
  have := x.isLt; unfold U; omega
theorem U_toNat (x : BitVec 64) : (U x).toNat = x.toNat := Int.toNat_natCast _
theorem U_inj {x y : BitVec 64} : U x = U y ↔ x = y := by
  unfold U; constructor
  · intro h; exact BitVec.eq_of_toNat_eq (by omega)
  · intro h; rw [h]
theorem U_beq (x y : BitVec 64) : (U x == U y) = (x == y) := by
  rw [Bool.eq_iff_iff, beq_iff_eq, beq_iff_eq]; exact U_inj
theorem U_bne (x y : BitVec 64) : (U x != U y) = (x != y) := by
  unfold bne; rw [U_beq]
theorem U_zero : U 0 = 0 := rfl
theorem U_one : U 1 = 1 := rfl
theorem U_ofNat (n : Nat) (h : n < 18446744073709551616) : U (BitVec.ofNat 64 n) = n := by
  unfold U; rw [BitVec.toNat_ofNat, Nat.mod_eq_of_lt h]
theorem U_le {x y : BitVec 64} : U x ≤ U y ↔ x ≤ y := by
  unfold U; rw [BitVec.le_def]; omega
/-- Each number of the kind is a word's. -/
theorem U_of (n : Int) (h : (Lit.int .u64 n).wf = true) : ∃ x : BitVec 64, n = U x := by
  have h' : 0 ≤ n ∧ n < 18446744073709551616 := by
    simp [Lit.wf, IntKind.min, IntKind.max, IntKind.bits, IntKind.signed] at h
    omega
  exact ⟨BitVec.ofNat 64 n.toNat, by rw [U_ofNat _ (by omega)]; omega⟩

theorem ofInt_U (x : BitVec 64) : BitVec.ofInt 64 (U x) = x := by
  unfold U; rw [BitVec.ofInt_natCast, BitVec.ofNat_toNat, BitVec.setWidth_eq]
theorem wrap_U (x : BitVec 64) : IntKind.u64.wrap (U x) = U x := by
  have := U_nonneg x; have := U_lt x
  rw [IntKind.wrap_u64]; omega

theorem and_U (x y : BitVec 64) : bits .and .u64 (U x) (U y) = U (x &&& y) := by
  show IntKind.u64.wrap (U (BitVec.ofInt 64 (U x) &&& BitVec.ofInt 64 (U y))) = _
  rw [ofInt_U, ofInt_U, wrap_U]
theorem or_U (x y : BitVec 64) : bits .or .u64 (U x) (U y) = U (x ||| y) := by
  show IntKind.u64.wrap (U (BitVec.ofInt 64 (U x) ||| BitVec.ofInt 64 (U y))) = _
  rw [ofInt_U, ofInt_U, wrap_U]
theorem xor_U (x y : BitVec 64) : bits .xor .u64 (U x) (U y) = U (x ^^^ y) := by
  show IntKind.u64.wrap (U (BitVec.ofInt 64 (U x) ^^^ BitVec.ofInt 64 (U y))) = _
  rw [ofInt_U, ofInt_U, wrap_U]
theorem andNot_U (x y : BitVec 64) : bits .andNot .u64 (U x) (U y) = U (x &&& ~~~y) := by
  show IntKind.u64.wrap (U (BitVec.ofInt 64 (U x) &&& ~~~(BitVec.ofInt 64 (U y)))) = _
  rw [ofInt_U, ofInt_U, wrap_U]
theorem add_U (x y : BitVec 64) : IntKind.u64.wrap (U x + U y) = U (x + y) := by
  rw [IntKind.wrap_u64]; unfold U; rw [BitVec.toNat_add]; omega
theorem sub_U (x y : BitVec 64) : IntKind.u64.wrap (U x - U y) = U (x - y) := by
  have := x.isLt; have := y.isLt
  rw [IntKind.wrap_u64]; unfold U; rw [BitVec.toNat_sub]; omega
theorem mul_U (x y : BitVec 64) : IntKind.u64.wrap (U x * U y) = U (x * y) := by
  rw [IntKind.wrap_u64]; unfold U; rw [BitVec.toNat_mul, ← Int.natCast_mul]; omega
theorem shl_U (x : BitVec 64) (n : Nat) : IntKind.u64.wrap (U x * 2 ^ n) = U (x <<< n) := by
  rw [IntKind.wrap_u64]; unfold U
  rw [BitVec.toNat_shiftLeft, Nat.shiftLeft_eq]
  have : ((x.toNat : Int) * 2 ^ n) = ((x.toNat * 2 ^ n : Nat) : Int) := by simp
  rw [this]; omega
theorem shr_U (x : BitVec 64) (n : Nat) : U x / 2 ^ n = U (x >>> n) := by
  unfold U
  rw [BitVec.toNat_ushiftRight, Nat.shiftRight_eq_div_pow]
  simp
theorem shl_min (x : BitVec 64) (n : Nat) : x <<< (min n 64) = x <<< n := by
  by_cases h : n ≤ 64
  · rw [Nat.min_eq_left h]
  · rw [Nat.min_eq_right (by omega), BitVec.shiftLeft_eq_zero (Nat.le_refl _), BitVec.shiftLeft_eq_zero (by omega)]
theorem shr_min (x : BitVec 64) (n : Nat) : x >>> (min n 64) = x >>> n := by
  by_cases h : n ≤ 64
  · rw [Nat.min_eq_left h]
  · rw [Nat.min_eq_right (by omega), BitVec.ushiftRight_eq_zero (Nat.le_refl _), BitVec.ushiftRight_eq_zero (by omega)]
end Go.Proofs.YtkopplnjomkleaaGreat.W64
