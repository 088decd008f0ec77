/-
  Texts beneath ChainPlays, part 18: Part1.
-/
import Derived.Test.YteofgnifpkcgmaaPart17
import Derived.Test.YteofgnifpkcgmaaRows
import Derived.WalkKit
import Derived.ProofKit
import Derived.Deep.QuietTactic
import Derived.BigQuiet
import Derived.Lib.Hide
import Derived.WalkSmall
import Derived.Deep.AppendLies
import Derived.OwnWalk
/-
  Texts beneath ChainPlays, part 1: Num, Base, Own, Mem, Cells, CellsLaws.
-/
/-
  Small facts that every layer uses; the contract of rundalemake.Number.
-/
namespace Go.Proofs.Yteofgnifpkcgmaa

theorem ret_int {k : IntKind} {a b : Int} (h : a = b) : Ending.returned (.int k a) = .returned (.int k b) := by rw [h]
theorem ret_bool {a b : Bool} (h : a = b) : Ending.returned (.bool a) = .returned (.bool b) := by rw [h]

theorem ret_two {k : IntKind} {a b : Int} {c : Bool} (h : a = b) : Ending.returned (.tuple #[.int k a, .bool c]) = .returned (.tuple #[.int k b, .bool c]) := by rw [h]
theorem quiet_eq {P : Program} {f : FuncId} {args : Array Value} {w : World} {n : Nat} {v : Value}
    (h : Calls P f args (w.drewN n) fun e w' => e = .returned v ∧ w.drewN n = w') : Calls P f args (w.drewN n) fun e w'' => e = .returned v ∧ ∃ m, w'' = w.drewN m :=
  h.mono fun _ _ ⟨he, hm⟩ => ⟨he, n, hm.symm⟩

theorem number_neg (v n : Int) (h : 0 < n) (h1 : v.tmod n < 0) : v.tmod n + n = v % n := by
  have a := Int.tmod_eq_emod (a := v) (b := n)
  have b := Int.emod_nonneg v (show n ≠ 0 by omega)
  split at a
  · omega
  · have : (n.natAbs : Int) = n := by omega
    omega
theorem number_pos (v n : Int) (h : 0 < n) (h1 : 0 ≤ v.tmod n) : v.tmod n = v % n := by
  have a := Int.tmod_eq_emod (a := v) (b := n)
  have b := Int.emod_lt_of_pos v h
  split at a
  · omega
  · have : (n.natAbs : Int) = n := by omega
    omega
theorem wrap64_in {n : Int} (h0 : -9223372036854775808 ≤ n) (h1 : n < 9223372036854775808) : RowKit.wrap64 n = n := by
  unfold RowKit.wrap64; omega
set_option maxHeartbeats 400000 in
theorem number_any (v n : Int) (w : World) (h : 0 < n) (hn : n < 9223372036854775808) :
    Calls Try.prog 12 #[.int .i64 v, .int .i64 n] w fun e w' => e = .returned (.int .i64 (v % n)) ∧ w = w' := by
  go_enter Try.func12, Try.ntmps12
  go_wp2
  all_goals
    go_ret
    refine ⟨ret_int ?_, rfl⟩
  · have h1 := Int.tmod_lt_of_pos v h
    have h2 := number_neg v n h ‹_›
    have h3 := Int.emod_nonneg v (show n ≠ 0 by omega)
    rw [wrap64_in (by omega) (by omega)]
    exact h2
  · exact number_pos v n h ‹_›
theorem number_is {v n k : Int} (e : v % n = k) (h : 0 < n) (hn : n < 9223372036854775808) (w : World) :
    Calls Try.prog 12 #[.int .i64 v, .int .i64 n] w fun e w' => e = .returned (.int .i64 k) ∧ w = w' := e ▸ number_any v n w h hn
theorem emod_letter (v n : Int) (h : 0 < n) : ∃ x, v % n = x ∧ x % n = x ∧ 0 ≤ x ∧ x < n :=
  ⟨_, rfl, Int.emod_emod_of_dvd v (Int.dvd_refl n), Int.emod_nonneg _ (by omega), Int.emod_lt_of_pos _ h⟩
end Go.Proofs.Yteofgnifpkcgmaa

/-
  Worlds that have only grown: what each contract of code that makes memory says. No program is named here.
-/
namespace Go.Proofs.Yteofgnifpkcgmaa.W64
end Go.Proofs.Yteofgnifpkcgmaa.W64
namespace Go.Proofs.Yteofgnifpkcgmaa
open Go.RowKit

/-- Of what there was nothing has turned. -/
def Up (w w' : World) : Prop := Below w.heap.size w w'
theorem Up.refl (w : World) : Up w w := Below.refl _ _
theorem Up.trans {a b c : World} (h : Up a b) (k : Up b c) : Up a c := Below.trans h (Below.mono k h.size)
theorem Up.alloc (w : World) (o : Obj) : Up w (w.alloc o) := (Below.refl _ _).alloc (Nat.le_refl _) _
theorem Up.drewN (w : World) (m : Nat) : Up w (w.drewN m) := below_drewN (Below.refl _ _) m
theorem Up.then_alloc {a w : World} (h : Up a w) (o : Obj) : Up a (w.alloc o) := h.trans (Up.alloc _ _)
theorem Up.then_drewN {a w : World} (h : Up a w) (m : Nat) : Up a (w.drewN m) := h.trans (Up.drewN _ _)
theorem Up.then_drew {a w : World} (h : Up a w) : Up a w.drew := h.trans (Up.drewN _ 1)
theorem Up.setCell {a w : World} (h : Up a w) {p : Addr} (hp : a.heap.size ≤ p.block) (u : Value) : Up a (w.setCell p u) := Below.setCell h hp u
theorem Up.le {w w' : World} (h : Up w w') : w.heap.size ≤ w'.heap.size := h.size
theorem Up.cell {w w' : World} (h : Up w w') {b o : Nat} {v : Value} (hb : b < w.heap.size) (hc : w.cell? ⟨b, o, none⟩ = some v) : w'.cell? ⟨b, o, none⟩ = some v :=
  (Below.cell h (p := ⟨b, o, none⟩) hb).trans hc
theorem Up.frozen {w w' : World} (h : Up w w') {b o : Nat} {v : Bool} (hb : b < w.heap.size) (hc : w.frozen? ⟨b, o, none⟩ = v) : w'.frozen? ⟨b, o, none⟩ = v :=
  (Below.frozen h (p := ⟨b, o, none⟩) hb).trans hc
theorem Up.kept {w w' : World} (h : Up w w') {p : Addr} {v : Value} (hc : w.cell? p = some v) : w'.cell? p = some v :=
  (Below.cell h (World.block_lt_of_cell? w _ hc)).trans hc
theorem up_two {a w' : World} {p q : Addr} {x y : Value} (u : Up a w') (hx : a.cell? p = some x) (hy : a.cell? q = some y) : w'.cell? p = some x ∧ w'.cell? q = some y ∧ Up a w' := ⟨u.kept hx, u.kept hy, u⟩
theorem Up.cells {W w1 : World} (hb : Up W w1) : (∀ b o, b < W.heap.size → w1.cell? ⟨b, o, none⟩ = W.cell? ⟨b, o, none⟩) ∧ (∀ b o, b < W.heap.size → w1.frozen? ⟨b, o, none⟩ = W.frozen? ⟨b, o, none⟩) :=
  ⟨fun b o h => Below.cell hb (p := ⟨b, o, none⟩) h, fun b o h => Below.frozen hb (p := ⟨b, o, none⟩) h⟩
theorem cell_new {w : World} {cs : Array Value} {t : TypeId} {fr : Nat × Nat} {n i : Nat} {v : Value} (hn : n = w.heap.size) (h : cs[i]? = some v) : (w.alloc (.cells cs t fr)).cell? ⟨n, i, none⟩ = some v := by
  subst hn; rw [World.cell?_alloc_mark]; exact h
/-- A contract that leaves the world alone, weakened: the world behind it is a letter. -/
theorem up_of_same {P : Program} {f : FuncId} {args : Array Value} {w : World} {v : Value}
    (h : Calls P f args w fun e w' => e = .returned v ∧ w = w') : Calls P f args w fun e w' => e = .returned v ∧ Up w w' :=
  h.mono fun _ _ ⟨he, hw⟩ => ⟨he, hw ▸ Up.refl _⟩

/-- A slice of numbers that came in: nil; or a row of 'cap' cells that hold the numbers 'zs', of which the first 'len' are its elements. -/
def IsRow (k : IntKind) (w : World) (a : Option Addr) (len cap : Nat) (zs : List Int) : Prop :=
  (a = none ∧ len = 0 ∧ cap = 0 ∧ zs = []) ∨
  ∃ x, a = some x ∧ len ≤ cap ∧ cap ≤ maxLen ∧ zs.length = cap ∧ (∀ i, i < zs.length → w.cell? (x.add i) = some (.int k (zs.getD i 0))) ∧ ∀ n ∈ zs, (Lit.int k n).wf = true
theorem row_len {k : IntKind} {w : World} {a : Option Addr} {len cap : Nat} {zs : List Int} (h : IsRow k w a len cap zs) : len ≤ maxLen := by
  rcases h with ⟨_, rfl, _, _⟩ | ⟨x, _, hl, hm, _⟩
  · exact Nat.zero_le _
  · omega
theorem row_cell {kd : IntKind} {w : World} {a : Option Addr} {len cap : Nat} {zs : List Int} (h : IsRow kd w a len cap zs) {k : Nat} (hk : k < len) :
    ∃ b off, a = some ⟨b, off, none⟩ ∧ b < w.heap.size ∧ w.cell? ⟨b, off + k, none⟩ = some (.int kd (zs.getD k 0)) := by
  rcases h with ⟨_, rfl, _, _⟩ | ⟨x, rfl, hl, hm, hz, hc, _⟩
  · omega
  · obtain ⟨b, off, spot⟩ := x
    have h0 := hc 0 (by omega)
    have hs : spot = none := by simpa [Addr.add] using World.cell?_spot h0
    subst hs
    have h1 := hc k (by omega)
    have e : (⟨b, off, none⟩ : Addr).add k = ⟨b, off + k, none⟩ := by
      unfold Addr.add; split
      · subst_vars; rfl
      · rfl
    rw [e] at h1
    exact ⟨b, off, rfl, World.block_lt_of_cell? w _ h1, h1⟩
end Go.Proofs.Yteofgnifpkcgmaa

/-
  Rows and blocks of the call's own, in a world that has only grown. No program is named here.
-/
namespace Go.Proofs.Yteofgnifpkcgmaa
open Go.RowKit

theorem up_three {a w' : World} {p q r : Addr} {x y z : Value} (u : Up a w') (hx : a.cell? p = some x) (hy : a.cell? q = some y) (hz : a.cell? r = some z) :
    w'.cell? p = some x ∧ w'.cell? q = some y ∧ w'.cell? r = some z ∧ Up a w' := ⟨u.kept hx, u.kept hy, u.kept hz, u⟩
theorem some_lt {w : World} {g : Nat} {o : Obj} (h : w.heap[g]? = some o) : g < w.heap.size := by
  rcases Nat.lt_or_ge g w.heap.size with h' | h'
  · exact h'
  · rw [Array.getElem?_eq_none h'] at h; cases h
theorem Up.heap {w w' : World} (u : Up w w') {g : Nat} {o : Obj} (h : w.heap[g]? = some o) : w'.heap[g]? = some o :=
  (u.block g (some_lt h)).trans h
theorem own_up {wr wx : World} {base size n : Nat} {e : TypeId} {v : Value} {xs : List Value} (h : wr.ownsRow base e size v n xs) (u : Up wr wx) : wx.ownsRow base e size v n xs :=
  ⟨h.1, h.2.imp id fun ⟨g, cap, cur, hv, hb, hh, r⟩ => ⟨g, cap, cur, hv, hb, u.heap hh, r⟩⟩
theorem own_slice {w : World} {base size n : Nat} {e : TypeId} {v : Value} {xs : List Value} (h : w.ownsRow base e size v n xs) : ∃ A cap, v = .slice A n cap := by
  rcases h.2 with ⟨h1, h2⟩ | ⟨g, cap, _, hv, _⟩
  · subst h2; exact ⟨_, _, h1⟩
  · exact ⟨_, _, hv⟩
theorem own_cell {w : World} {base n j cap : Nat} {e : TypeId} {A : Option Addr} {xs : List Value} (h : w.ownsRow base e 1 (.slice A n cap) n xs) (hj : j < n) :
    ∃ g, A = some ⟨g, 0, none⟩ ∧ w.cell? ⟨g, j, none⟩ = xs[j]? := by
  rcases h.2 with ⟨_, h2⟩ | ⟨g, c, cur, hv, hb, hh, hn, hc, hs, ht⟩
  · omega
  · injection hv with h1
    refine ⟨g, h1, ?_⟩
    have e1 : w.cell? ⟨g, j, none⟩ = cur[j]? := by simp [World.cell?, hh]
    rw [e1, ← ht, List.getElem?_take, if_pos (by omega)]; simp
theorem own_ne {w : World} {base size n g : Nat} {e : TypeId} {v : Value} {xs : List Value} (h : w.ownsRow base e size v n xs) (hg : g < base) : some g ≠ v.ownBlock := by
  rcases h.2 with ⟨rfl, _⟩ | ⟨g', cap, cur, rfl, hb, _⟩
  · simp [Value.ownBlock]
  · intro he; simp [Value.ownBlock] at he; omega
theorem own_lt {w : World} {base size n g : Nat} {e : TypeId} {v : Value} {xs : List Value} (h : w.ownsRow base e size v n xs) (hg : w.heap.size ≤ g) : some g ≠ v.ownBlock := by
  rcases h.2 with ⟨rfl, _⟩ | ⟨g', cap, cur, rfl, hb, hh, _⟩
  · simp [Value.ownBlock]
  · intro he; simp [Value.ownBlock] at he; have := some_lt hh; omega
theorem own_ge {w : World} {base size n : Nat} {e : TypeId} {v : Value} {xs : List Value} (h : w.ownsRow base e size v n xs) : ∀ k, v.ownBlock = some k → base ≤ k := by
  rcases h.2 with ⟨rfl, _⟩ | ⟨g', cap, cur, rfl, hb, _⟩
  · intro k hk; simp [Value.ownBlock] at hk
  · intro k hk; simp [Value.ownBlock] at hk; omega
theorem one_new (w : World) (v : Value) (t : TypeId) : ∀ j u, [v][j]? = some u → (w.alloc (.cells #[v] t)).cell? ((⟨w.heap.size, 0, none⟩ : Addr).add j) = some u := by
  intro j u hj
  match j, hj with
  | 0, hj => simp at hj; subst hj; simp [Addr.add]
  | j + 1, hj => simp at hj
theorem own_set {w : World} {base size n : Nat} {e : TypeId} {v : Value} {xs : List Value} (h : w.ownsRow base e size v n xs) {p : Addr} (hp : p.block < base) (u : Value) : (w.setCell p u).ownsRow base e size v n xs :=
  ownsRow_setCell_below h hp u

/-- Block g is just these cells, none frozen. -/
def Whole (w : World) (g : Nat) (t : TypeId) (cs : Array Value) : Prop := w.heap[g]? = some (.cells cs t (0, 0))
theorem Whole.lt {w : World} {g : Nat} {t : TypeId} {cs : Array Value} (h : Whole w g t cs) : g < w.heap.size := some_lt h
theorem Whole.cell {w : World} {g : Nat} {t : TypeId} {cs : Array Value} (h : Whole w g t cs) {i : Nat} {v : Value} (hv : cs[i]? = some v) : w.cell? ⟨g, i, none⟩ = some v := by
  unfold Whole at h; simp [World.cell?, h, hv]
theorem Whole.frozen {w : World} {g : Nat} {t : TypeId} {cs : Array Value} (h : Whole w g t cs) (i : Nat) : w.frozen? ⟨g, i, none⟩ = false := by
  unfold Whole at h; simp [World.frozen?, h]
theorem Whole.up {w w' : World} {g : Nat} {t : TypeId} {cs : Array Value} (h : Whole w g t cs) (u : Up w w') : Whole w' g t cs := u.heap h
theorem Whole.new (w : World) (t : TypeId) (cs : Array Value) : Whole (w.alloc (.cells cs t)) w.heap.size t cs := heap_alloc_new w _
theorem Whole.grown {w w' : World} {g : Nat} {t : TypeId} {cs : Array Value} {row : Option Nat} (h : Whole w g t cs) (hg : w.grownBy w' row) (hne : some g ≠ row) : Whole w' g t cs :=
  (hg.block g h.lt hne).trans h
theorem Whole.set {w : World} {g : Nat} {t : TypeId} {cs : Array Value} (h : Whole w g t cs) (i : Nat) (u : Value) : Whole (w.setCell ⟨g, i, none⟩ u) g t (cs.setIfInBounds i u) := by
  unfold Whole at h ⊢; simp [World.setCell, Array.getElem?_modify, h]
theorem Up.grown {a w w' : World} {row : Option Nat} (h : Up a w) (hg : w.grownBy w' row) (hr : ∀ k, row = some k → a.heap.size ≤ k) : Up a w' := Below.grown h hg h.size hr
theorem Up.set {a w : World} (h : Up a w) {g i : Nat} (hg : a.heap.size ≤ g) (u : Value) : Up a (w.setCell ⟨g, i, none⟩ u) := Below.setCell h hg u
end Go.Proofs.Yteofgnifpkcgmaa

/-
  Worlds that differ in some blocks alone: what a contract says of code that writes into objects of its caller's. No program is named here.
-/
namespace Go.Proofs.Yteofgnifpkcgmaa
open Go.RowKit

/-- Of what there was nothing has turned but for the blocks s. -/
structure Else (s : List Nat) (w w' : World) : Prop where
  os : w'.os = w.os
  tape : w'.tape = w.tape
  output : w'.output = w.output
  size : w.heap.size ≤ w'.heap.size
  block : ∀ k, k < w.heap.size → k ∉ s → w'.heap[k]? = w.heap[k]?
theorem Else.refl (s : List Nat) (w : World) : Else s w w := ⟨rfl, rfl, rfl, Nat.le_refl _, fun _ _ _ => rfl⟩
theorem Else.trans {s : List Nat} {a b c : World} (h : Else s a b) (k : Else s b c) : Else s a c :=
  ⟨k.os.trans h.os, k.tape.trans h.tape, k.output.trans h.output, Nat.le_trans h.size k.size, fun i hi hs => (k.block i (Nat.lt_of_lt_of_le hi h.size) hs).trans (h.block i hi hs)⟩
theorem Else.of_up {s : List Nat} {w w' : World} (h : Up w w') : Else s w w' := ⟨h.os, h.tape, h.output, h.size, fun k hk _ => h.block k hk⟩
theorem Else.up_of {w w' : World} (h : Else [] w w') : Up w w' := ⟨h.os, h.tape, h.output, h.size, fun k hk => h.block k hk (by simp)⟩
theorem Else.more {s t : List Nat} {w w' : World} (h : Else s w w') (hst : ∀ k, k ∈ s → k ∈ t) : Else t w w' := ⟨h.os, h.tape, h.output, h.size, fun k hk hs => h.block k hk (fun h' => hs (hst k h'))⟩
theorem Else.alloc {s : List Nat} {a w : World} (h : Else s a w) (o : Obj) : Else s a (w.alloc o) := h.trans (Else.of_up (Up.alloc w o))
theorem Else.drew {s : List Nat} {a w : World} (h : Else s a w) : Else s a w.drew := h.trans (Else.of_up (Up.drewN w 1))
theorem Else.drewN {s : List Nat} {a w : World} (h : Else s a w) (n : Nat) : Else s a (w.drewN n) := h.trans (Else.of_up (Up.drewN w n))
theorem Else.up {s : List Nat} {a w w' : World} (h : Else s a w) (u : Up w w') : Else s a w' := h.trans (Else.of_up u)
/-- A store into one of these blocks, or into one that is new. -/
theorem Else.set {s : List Nat} {a w : World} (h : Else s a w) {p : Addr} (hp : p.block ∈ s ∨ a.heap.size ≤ p.block) (v : Value) : Else s a (w.setCell p v) := by
  have b := Below.setCell (Below.refl p.block w) (Nat.le_refl _) v
  refine ⟨b.os.trans h.os, b.tape.trans h.tape, b.output.trans h.output, Nat.le_trans h.size b.size, fun k hk hs => ?_⟩
  have hne : k ≠ p.block := by
    rcases hp with hp | hp
    · intro e; exact hs (e ▸ hp)
    · omega
  exact (Below.heap_setCell w p v k hne).trans (h.block k hk hs)
/-- New blocks are nobody's: what was done to them alone is nothing to the elder world. -/
theorem Else.up_new {s : List Nat} {a w w' : World} (u : Up a w) (h : Else s w w') (hs : ∀ k, k ∈ s → a.heap.size ≤ k) : Up a w' :=
  ⟨h.os.trans u.os, h.tape.trans u.tape, h.output.trans u.output, Nat.le_trans u.size h.size, fun k hk => (h.block k (Nat.lt_of_lt_of_le hk u.size) (fun h' => by have := hs k h'; omega)).trans (u.block k hk)⟩
theorem Else.heap {s : List Nat} {w w' : World} (h : Else s w w') {g : Nat} {o : Obj} (hg : w.heap[g]? = some o) (hs : g ∉ s) : w'.heap[g]? = some o := (h.block g (some_lt hg) hs).trans hg
theorem Else.whole {s : List Nat} {w w' : World} (h : Else s w w') {g : Nat} {t : TypeId} {cs : Array Value} (hw : Whole w g t cs) (hs : g ∉ s) : Whole w' g t cs := h.heap hw hs
theorem Else.kept {s : List Nat} {w w' : World} (h : Else s w w') {p : Addr} {v : Value} (hc : w.cell? p = some v) (hs : p.block ∉ s) : w'.cell? p = some v :=
  (World.cell?_of_block (w := w) (h.block p.block (World.block_lt_of_cell? w _ hc) hs)).trans hc
/-- A store elsewhere. -/
theorem Whole.far {w : World} {g : Nat} {t : TypeId} {cs : Array Value} (h : Whole w g t cs) {p : Addr} (hp : g ≠ p.block) (v : Value) : Whole (w.setCell p v) g t cs :=
  (Below.heap_setCell w p v g hp).trans h
theorem Whole.alloc {w : World} {g : Nat} {t : TypeId} {cs : Array Value} (h : Whole w g t cs) (o : Obj) : Whole (w.alloc o) g t cs := h.up (Up.alloc w o)
theorem Whole.drewN {w : World} {g : Nat} {t : TypeId} {cs : Array Value} (h : Whole w g t cs) (n : Nat) : Whole (w.drewN n) g t cs := h
end Go.Proofs.Yteofgnifpkcgmaa

/-
  Package cells: what a memory is, told by a list of words and the last access (St); Mem: it lies in the world; each method's contract.
-/
namespace Go.Proofs.Yteofgnifpkcgmaa
open Go.RowKit

/-- A memory: what its cells hold, how many accesses there were, the last one. -/
structure St where
  xs : List Int
  c : Int
  k : Int
  a : Int
  o : Int
  v : Int
  y : Bool
def St.zero (n : Nat) : St := ⟨List.replicate n 0, 0, 0, 0, 0, 0, false⟩
def St.get (s : St) (i : Int) : Int := s.xs.getD i.toNat 0
def St.hit (s : St) (k i v : Int) (y : Bool) : St := ⟨s.xs.set i.toNat v, wrap64 (s.c + 1), k, i, s.get i, v, y⟩
def St.lay (s : St) (i v : Int) : St := { s with xs := s.xs.set i.toNat v }
def St.last (s : St) : Value := .agg #[.int .i64 s.k, .int .i64 s.a, .int .u64 s.o, .int .u64 s.v, .bool s.y]
def St.has (s : St) (i : Int) : Prop := 0 ≤ i ∧ i < s.xs.length
def row (xs : List Int) : Array Value := (xs.map (Value.int .u64)).toArray
/-- The memory s lies at p, its cells at g. -/
structure Mem (w : World) (p g : Nat) (s : St) : Prop where
  top : Whole w p 92 #[.slice (some ⟨g, 0, none⟩) s.xs.length s.xs.length, .int .i64 s.c, .int .i64 s.k, .int .i64 s.a, .int .u64 s.o, .int .u64 s.v, .bool s.y]
  row : Whole w g 41 (row s.xs)
  ne : p ≠ g

theorem row_get {xs : List Int} {i : Nat} (h : i < xs.length) : (row xs)[i]? = some (.int .u64 (xs.getD i 0)) := by
  simp [row, List.getD, h]
theorem row_set (xs : List Int) (i : Nat) (v : Int) : (row xs).setIfInBounds i (.int .u64 v) = row (xs.set i v) := by
  simp [row, List.map_set]
theorem Mem.up {w w' : World} {p g : Nat} {s : St} (h : Mem w p g s) (u : Up w w') : Mem w' p g s := ⟨h.top.up u, h.row.up u, h.ne⟩
theorem Mem.else {w w' : World} {p g : Nat} {s : St} {l : List Nat} (h : Mem w p g s) (u : Else l w w') (hp : p ∉ l) (hg : g ∉ l) : Mem w' p g s := ⟨u.whole h.top hp, u.whole h.row hg, h.ne⟩

set_option maxHeartbeats 400000 in
theorem has_in {w : World} {p g : Nat} {s : St} {i : Int} (m : Mem w p g s) (h : s.has i) :
    Calls Try.prog 42 #[.pointer (some ⟨p, 0, none⟩), .int .i64 i] w fun e w' => e = .returned (.bool true) ∧ w = w' := by
  have c0 := m.top.cell (i := 0) rfl
  obtain ⟨h0, h1⟩ := h
  go_enter Try.func42, Try.ntmps42
  go_wp2
  go_ret
  exact ⟨rfl, rfl⟩
set_option maxHeartbeats 400000 in
theorem has_out {w : World} {p g : Nat} {s : St} {i : Int} (m : Mem w p g s) (h : ¬ s.has i) :
    Calls Try.prog 42 #[.pointer (some ⟨p, 0, none⟩), .int .i64 i] w fun e w' => e = .returned (.bool false) ∧ w = w' := by
  have c0 := m.top.cell (i := 0) rfl
  by_cases h0 : 0 ≤ i
  · have h1 : ¬ i < s.xs.length := fun h' => h ⟨h0, h'⟩
    go_enter Try.func42, Try.ntmps42
    go_wp2
    go_ret
    exact ⟨rfl, rfl⟩
  · go_enter Try.func42, Try.ntmps42
    go_wp2
    go_ret
    exact ⟨rfl, rfl⟩
theorem Mem.cells {w : World} {p g : Nat} {s : St} (m : Mem w p g s) :
    w.cell? ⟨p, 0, none⟩ = some (.slice (some ⟨g, 0, none⟩) s.xs.length s.xs.length) ∧ w.cell? ⟨p, 1, none⟩ = some (.int .i64 s.c) ∧ w.cell? ⟨p, 2, none⟩ = some (.int .i64 s.k) ∧
    w.cell? ⟨p, 3, none⟩ = some (.int .i64 s.a) ∧ w.cell? ⟨p, 4, none⟩ = some (.int .u64 s.o) ∧ w.cell? ⟨p, 5, none⟩ = some (.int .u64 s.v) ∧ w.cell? ⟨p, 6, none⟩ = some (.bool s.y) :=
  ⟨m.top.cell rfl, m.top.cell rfl, m.top.cell rfl, m.top.cell rfl, m.top.cell rfl, m.top.cell rfl, m.top.cell rfl⟩
theorem Mem.cell {w : World} {p g : Nat} {s : St} (m : Mem w p g s) {n : Nat} (h : s.has n) : w.cell? ⟨g, n, none⟩ = some (.int .u64 (s.get n)) :=
  m.row.cell (row_get (by have := h.2; omega))
/-- What a stroke leaves. -/
theorem Mem.hit {w : World} {p g : Nat} {s : St} (m : Mem w p g s) (k : Int) (n : Nat) (v x : Int) (y : Bool) (hx : x = s.get n) :
    Mem (((((((w.setCell ⟨p, 2, none⟩ (.int .i64 k)).setCell ⟨p, 3, none⟩ (.int .i64 n)).setCell ⟨p, 4, none⟩ (.int .u64 x)).setCell ⟨p, 5, none⟩ (.int .u64 v)).setCell ⟨p, 6, none⟩ (.bool y)).setCell ⟨p, 1, none⟩ (.int .i64 (wrap64 (s.c + 1)))).setCell ⟨g, n, none⟩ (.int .u64 v)) p g (s.hit k n v y) := by
  subst hx
  have ne := m.ne
  refine ⟨?_, ?_, ne⟩
  · have h := (((((m.top.set 2 (.int .i64 k)).set 3 (.int .i64 n)).set 4 (.int .u64 (s.get n))).set 5 (.int .u64 v)).set 6 (.bool y)).set 1 (.int .i64 (wrap64 (s.c + 1)))
    have h2 := h.far (p := ⟨g, n, none⟩) ne (.int .u64 v)
    have e : (s.hit k n v y).xs.length = s.xs.length := by simp [St.hit]
    rw [e]; exact h2
  · have h := ((((((m.row.far (p := ⟨p, 2, none⟩) ne.symm (.int .i64 k)).far (p := ⟨p, 3, none⟩) ne.symm (.int .i64 n)).far (p := ⟨p, 4, none⟩) ne.symm (.int .u64 (s.get n))).far (p := ⟨p, 5, none⟩) ne.symm (.int .u64 v)).far (p := ⟨p, 6, none⟩) ne.symm (.bool y)).far (p := ⟨p, 1, none⟩) ne.symm (.int .i64 (wrap64 (s.c + 1)))).set n (.int .u64 v)
    rw [row_set] at h; exact h
theorem else_hit {w : World} {p g : Nat} {q1 q2 q3 q4 q5 q6 q7 : Nat} {u1 u2 u3 u4 u5 u6 u7 : Value} :
    Else [p, g] w (((((((w.setCell ⟨p, q1, none⟩ u1).setCell ⟨p, q2, none⟩ u2).setCell ⟨p, q3, none⟩ u3).setCell ⟨p, q4, none⟩ u4).setCell ⟨p, q5, none⟩ u5).setCell ⟨p, q6, none⟩ u6).setCell ⟨g, q7, none⟩ u7) :=
  (((((((Else.refl [p, g] w).set (.inl (by simp)) _).set (.inl (by simp)) _).set (.inl (by simp)) _).set (.inl (by simp)) _).set (.inl (by simp)) _).set (.inl (by simp)) _).set (.inl (by simp)) _

set_option maxHeartbeats 1000000 in
theorem stroke_in {w : World} {p g : Nat} {s : St} {i : Int} (k v : Int) (y : Bool) (m : Mem w p g s) (h : s.has i) :
    Calls Try.prog 80 #[.pointer (some ⟨p, 0, none⟩), .int .i64 k, .int .i64 i, .int .u64 v, .bool y] w fun e w' => e = .returned (.tuple #[]) ∧ Mem w' p g (s.hit k i v y) ∧ Else [p, g] w w' := by
  obtain ⟨c0, c1, c2, c3, c4, c5, c6⟩ := m.cells
  have f := m.top.frozen
  have fg := m.row.frozen
  have hne := m.ne
  have hh := Lib.hid h
  obtain ⟨h0, h1⟩ := h
  obtain ⟨n, rfl⟩ := Int.eq_ofNat_of_zero_le h0
  have d := m.cell hh.out
  obtain ⟨x, hx⟩ : ∃ x, x = s.get n := ⟨_, rfl⟩
  rw [← hx] at d
  have hx := Lib.hid hx
  have hm := Lib.hid m
  clear m
  go_enter Try.func80, Try.ntmps80
  go_wp2
  go_end0
  exact ⟨rfl, hm.out.hit k n v _ y rfl, else_hit⟩

set_option maxHeartbeats 1000000 in
theorem load_in {w : World} {p g : Nat} {s : St} {i : Int} (m : Mem w p g s) (h : s.has i) :
    Calls Try.prog 74 #[.pointer (some ⟨p, 0, none⟩), .int .i64 i] w fun e w' => e = .returned (.tuple #[.int .u64 (s.get i), .int .i64 0]) ∧ Mem w' p g (s.hit 1 i (s.get i) true) ∧ Else [p, g] w w' := by
  have c0 := m.top.cell (i := 0) rfl
  have hh := Lib.hid h
  obtain ⟨h0, h1⟩ := h
  obtain ⟨n, rfl⟩ := Int.eq_ofNat_of_zero_le h0
  have d := m.cell hh.out
  have hm := Lib.hid m
  clear m
  go_enter Try.func74, Try.ntmps74
  go_wp2_with (first
    | (go_at_call 42; refine (has_in hm.out hh.out).mono ?_; rintro e w' ⟨rfl, rfl⟩)
    | (go_at_call 80; refine (stroke_in _ _ _ hm.out hh.out).mono ?_; rintro e w' ⟨rfl, M1, E1⟩))
  go_ret2
  exact ⟨rfl, M1, E1⟩
theorem load_out {w : World} {p g : Nat} {s : St} {i : Int} (m : Mem w p g s) (h : ¬ s.has i) :
    Calls Try.prog 74 #[.pointer (some ⟨p, 0, none⟩), .int .i64 i] w fun e w' => e = .returned (.tuple #[.int .u64 0, .int .i64 1]) ∧ w = w' := by
  have hm := Lib.hid m
  clear m
  go_enter Try.func74, Try.ntmps74
  go_wp2_with ((go_at_call 42; refine (has_out hm.out h).mono ?_; rintro e w' ⟨rfl, rfl⟩))
  go_ret2
  exact ⟨rfl, rfl⟩
set_option maxHeartbeats 1000000 in
theorem store_in {w : World} {p g : Nat} {s : St} {i : Int} (v : Int) (m : Mem w p g s) (h : s.has i) :
    Calls Try.prog 72 #[.pointer (some ⟨p, 0, none⟩), .int .i64 i, .int .u64 v] w fun e w' => e = .returned (.int .i64 0) ∧ Mem w' p g (s.hit 2 i v true) ∧ Else [p, g] w w' := by
  have hh := Lib.hid h
  have hm := Lib.hid m
  clear m h
  go_enter Try.func72, Try.ntmps72
  go_wp2_with (first
    | (go_at_call 42; refine (has_in hm.out hh.out).mono ?_; rintro e w' ⟨rfl, rfl⟩)
    | (go_at_call 80; refine (stroke_in _ _ _ hm.out hh.out).mono ?_; rintro e w' ⟨rfl, M1, E1⟩))
  go_ret
  exact ⟨rfl, M1, E1⟩
theorem store_out {w : World} {p g : Nat} {s : St} {i : Int} (v : Int) (m : Mem w p g s) (h : ¬ s.has i) :
    Calls Try.prog 72 #[.pointer (some ⟨p, 0, none⟩), .int .i64 i, .int .u64 v] w fun e w' => e = .returned (.int .i64 1) ∧ w = w' := by
  have hm := Lib.hid m
  clear m
  go_enter Try.func72, Try.ntmps72
  go_wp2_with ((go_at_call 42; refine (has_out hm.out h).mono ?_; rintro e w' ⟨rfl, rfl⟩))
  go_ret
  exact ⟨rfl, rfl⟩
set_option maxHeartbeats 1000000 in
theorem peek_in {w : World} {p g : Nat} {s : St} {i : Int} (m : Mem w p g s) (h : s.has i) :
    Calls Try.prog 15 #[.pointer (some ⟨p, 0, none⟩), .int .i64 i] w fun e w' => e = .returned (.int .u64 (s.get i)) ∧ w = w' := by
  have c0 := m.top.cell (i := 0) rfl
  have hh := Lib.hid h
  obtain ⟨h0, h1⟩ := h
  obtain ⟨n, rfl⟩ := Int.eq_ofNat_of_zero_le h0
  have d := m.cell hh.out
  have hm := Lib.hid m
  clear m
  go_enter Try.func15, Try.ntmps15
  go_wp2_with ((go_at_call 42; refine (has_in hm.out hh.out).mono ?_; rintro e w' ⟨rfl, rfl⟩))
  go_ret
  exact ⟨rfl, rfl⟩
theorem peek_out {w : World} {p g : Nat} {s : St} {i : Int} (m : Mem w p g s) (h : ¬ s.has i) :
    Calls Try.prog 15 #[.pointer (some ⟨p, 0, none⟩), .int .i64 i] w fun e w' => e = .returned (.int .u64 0) ∧ w = w' := by
  have hm := Lib.hid m
  clear m
  go_enter Try.func15, Try.ntmps15
  go_wp2_with ((go_at_call 42; refine (has_out hm.out h).mono ?_; rintro e w' ⟨rfl, rfl⟩))
  go_ret
  exact ⟨rfl, rfl⟩
theorem Mem.lay {w : World} {p g : Nat} {s : St} (m : Mem w p g s) (n : Nat) (v : Int) : Mem (w.setCell ⟨g, n, none⟩ (.int .u64 v)) p g (s.lay n v) := by
  refine ⟨?_, ?_, m.ne⟩
  · have h := m.top.far (p := ⟨g, n, none⟩) m.ne (.int .u64 v)
    have e : (s.lay n v).xs.length = s.xs.length := by simp [St.lay]
    rw [e]; exact h
  · have h := m.row.set n (.int .u64 v)
    rw [row_set] at h; exact h
set_option maxHeartbeats 1000000 in
theorem lay_in {w : World} {p g : Nat} {s : St} {i : Int} (v : Int) (m : Mem w p g s) (h : s.has i) :
    Calls Try.prog 27 #[.pointer (some ⟨p, 0, none⟩), .int .i64 i, .int .u64 v] w fun e w' => e = .returned (.int .i64 0) ∧ Mem w' p g (s.lay i v) ∧ Else [p, g] w w' := by
  have c0 := m.top.cell (i := 0) rfl
  have fg := m.row.frozen
  have hh := Lib.hid h
  obtain ⟨h0, h1⟩ := h
  obtain ⟨n, rfl⟩ := Int.eq_ofNat_of_zero_le h0
  have d := m.cell hh.out
  have hm := Lib.hid m
  clear m
  go_enter Try.func27, Try.ntmps27
  go_wp2_with ((go_at_call 42; refine (has_in hm.out hh.out).mono ?_; rintro e w' ⟨rfl, rfl⟩))
  go_ret
  exact ⟨rfl, hm.out.lay n v, (Else.refl [p, g] w).set (.inl (by simp)) _⟩
theorem lay_out {w : World} {p g : Nat} {s : St} {i : Int} (v : Int) (m : Mem w p g s) (h : ¬ s.has i) :
    Calls Try.prog 27 #[.pointer (some ⟨p, 0, none⟩), .int .i64 i, .int .u64 v] w fun e w' => e = .returned (.int .i64 1) ∧ w = w' := by
  have hm := Lib.hid m
  clear m
  go_enter Try.func27, Try.ntmps27
  go_wp2_with ((go_at_call 42; refine (has_out hm.out h).mono ?_; rintro e w' ⟨rfl, rfl⟩))
  go_ret
  exact ⟨rfl, rfl⟩
theorem count_any {w : World} {p g : Nat} {s : St} (m : Mem w p g s) :
    Calls Try.prog 24 #[.pointer (some ⟨p, 0, none⟩)] w fun e w' => e = .returned (.int .i64 s.c) ∧ w = w' := by
  have c1 := m.cells.2.1
  go_enter Try.func24, Try.ntmps24
  go_wp2
  go_ret
  exact ⟨rfl, rfl⟩
theorem len_any {w : World} {p g : Nat} {s : St} (m : Mem w p g s) :
    Calls Try.prog 58 #[.pointer (some ⟨p, 0, none⟩)] w fun e w' => e = .returned (.int .i64 s.xs.length) ∧ w = w' := by
  have c0 := m.cells.1
  go_enter Try.func58, Try.ntmps58
  go_wp2
  go_ret
  exact ⟨rfl, rfl⟩
theorem made_row (n : Nat) : madeCells (Value.int .u64 0).cells (n * 1) = row (List.replicate n 0) := by
  apply Array.ext
  · simp [madeCells, row]
  · intro i h1 h2
    simp [madeCells, row, Value.cells, Nat.mod_one]
theorem info_u64 : (Try.prog.info? 41).map (fun i => (i.zero, i.size, i.bytes)) = some (some (.int .u64 0), 1, 8) := by kernel_rfl
theorem run_row (n : Nat) (h : n ≤ 8388608) (w : World) : (Instr.makeSlice 44 (.int .i64 (n : Int)) (.int .i64 (n : Int))).run Try.prog w = .ok (.slice (some ⟨w.heap.size, 0, none⟩) n n) (w.alloc (.cells (row (List.replicate n 0)) 41)) := by
  obtain ⟨i, hi, hz0, hz1, hz2⟩ := info_parts info_u64
  have := run_make (P := Try.prog) w 44 41 i _ Try.underlying44 hi hz0 .i64 .i64 n n (by omega) (by omega) (by rw [hz2]; omega) (by omega)
  rw [this, hz1, made_row]; rfl
set_option maxHeartbeats 1000000 in
theorem new_in (n : Nat) (h0 : 1 ≤ n) (h1 : n ≤ 8388608) (w : World) :
    Calls Try.prog 28 #[.int .i64 (n : Int)] w fun e w' => e = .returned (.tuple #[.pointer (some ⟨w.heap.size + 1, 0, none⟩), .int .i64 0]) ∧ Mem w' (w.heap.size + 1) w.heap.size (St.zero n) ∧ Up w w' := by
  have hr := run_row n h1
  have b0 : (1 : Int) ≤ (n : Int) := by omega
  have b1 : (n : Int) ≤ 8388608 := by omega
  go_enter Try.func28, Try.ntmps28
  go_wp2
  go_ret2
  refine ⟨rfl, ⟨?_, ?_, by omega⟩, ((Up.refl _).then_alloc _).then_alloc _⟩
  · have h := Whole.new (w.alloc (.cells (row (List.replicate n 0)) 41)) 92 #[.slice (some ⟨w.heap.size, 0, none⟩) (St.zero n).xs.length (St.zero n).xs.length, .int .i64 0, .int .i64 0, .int .i64 0, .int .u64 0, .int .u64 0, .bool false]
    have e : (w.alloc (.cells (row (List.replicate n 0)) 41)).heap.size = w.heap.size + 1 := by simp
    rw [e] at h
    simpa [St.zero] using h
  · exact (Whole.new w 41 (row (List.replicate n 0))).alloc _
theorem new_out {i : Int} (h : i < 1 ∨ 8388608 < i) (w : World) :
    Calls Try.prog 28 #[.int .i64 i] w fun e w' => e = .returned (.tuple #[.pointer none, .int .i64 1]) ∧ w = w' := by
  by_cases h0 : i < 1
  · go_enter Try.func28, Try.ntmps28
    go_wp2
    go_ret2
    exact ⟨rfl, rfl⟩
  · have h1 : 8388608 < i := by omega
    go_enter Try.func28, Try.ntmps28
    go_wp2
    go_ret2
    exact ⟨rfl, rfl⟩
end Go.Proofs.Yteofgnifpkcgmaa

/-
  The statements' own first of layer 5; the contracts of Cells with the answer and what is left told by equations.
-/
namespace Go.Proofs.Yteofgnifpkcgmaa
open Go.RowKit

theorem new_is {n : Nat} {i : Int} (hi : i = n) (h0 : 1 ≤ n) (h1 : n ≤ 8388608) (w : World) :
    Calls Try.prog 28 #[.int .i64 i] w fun e w' => e = .returned (.tuple #[.pointer (some ⟨w.heap.size + 1, 0, none⟩), .int .i64 0]) ∧ Mem w' (w.heap.size + 1) w.heap.size (St.zero n) ∧ Up w w' := by
  subst hi; exact new_in n h0 h1 w
theorem wrap_small {n : Int} (h0 : 0 ≤ n) (h1 : n < 18446744073709551616) : IntKind.u64.wrap n = n := IntWalk.u64_in n (by omega)

theorem first_s1 : (St.zero 2).hit 4 1 (IntKind.u64.wrap (0 + 5)) true = ⟨[0, 5], 1, 4, 1, 0, 5, true⟩ := by
  rw [wrap_small (by decide) (by decide)]
  unfold St.hit
  rw [IntWalk.wrap64_in _ (by decide)]; rfl
theorem first_s2 : (⟨[0, 5], 1, 4, 1, 0, 5, true⟩ : St).hit 4 1 (IntKind.u64.wrap (5 + 3)) true = ⟨[0, 8], 2, 4, 1, 5, 8, true⟩ := by
  rw [wrap_small (by decide) (by decide)]
  unfold St.hit
  rw [IntWalk.wrap64_in _ (by decide)]; rfl
theorem count_to {w : World} {p g : Nat} {s : St} {x : Int} (m : Mem w p g s) (hx : s.c = x) :
    Calls Try.prog 24 #[.pointer (some ⟨p, 0, none⟩)] w fun e w' => e = .returned (.int .i64 x) ∧ w = w' := by
  subst hx; exact count_any m
theorem len_to {w : World} {p g : Nat} {s : St} {x : Int} (m : Mem w p g s) (hx : (s.xs.length : Int) = x) :
    Calls Try.prog 58 #[.pointer (some ⟨p, 0, none⟩)] w fun e w' => e = .returned (.int .i64 x) ∧ w = w' := by
  subst hx; exact len_any m
theorem peek_to {w : World} {p g : Nat} {s : St} {i x : Int} (m : Mem w p g s) (h : s.has i) (hx : s.get i = x) :
    Calls Try.prog 15 #[.pointer (some ⟨p, 0, none⟩), .int .i64 i] w fun e w' => e = .returned (.int .u64 x) ∧ w = w' := by
  subst hx; exact peek_in m h
theorem load_to {w : World} {p g : Nat} {s s' : St} {i x : Int} (m : Mem w p g s) (h : s.has i) (hx : s.get i = x) (hs : s.hit 1 i x true = s') :
    Calls Try.prog 74 #[.pointer (some ⟨p, 0, none⟩), .int .i64 i] w fun e w' => e = .returned (.tuple #[.int .u64 x, .int .i64 0]) ∧ Mem w' p g s' ∧ Else [p, g] w w' := by
  subst hx hs; exact load_in m h
theorem store_to {w : World} {p g : Nat} {s s' : St} {i v : Int} (m : Mem w p g s) (h : s.has i) (hs : s.hit 2 i v true = s') :
    Calls Try.prog 72 #[.pointer (some ⟨p, 0, none⟩), .int .i64 i, .int .u64 v] w fun e w' => e = .returned (.int .i64 0) ∧ Mem w' p g s' ∧ Else [p, g] w w' := by
  subst hs; exact store_in v m h
theorem one_is : (1 : Int) = ((1 : Nat) : Int) := rfl
theorem five_is : (5 : Int) = ((5 : Nat) : Int) := rfl
theorem zero_c (n : Nat) : (St.zero n).c = 0 := rfl
theorem two_is : (2 : Int) = ((2 : Nat) : Int) := rfl
theorem first_h1 : (St.zero 2).has 1 := by constructor <;> decide
theorem first_h2 : (⟨[0, 5], 1, 4, 1, 0, 5, true⟩ : St).has 1 := by constructor <;> decide
theorem first_g1 : (St.zero 2).get 1 = 0 := rfl
theorem first_g2 : (⟨[0, 5], 1, 4, 1, 0, 5, true⟩ : St).get 1 = 5 := rfl
theorem first_l : (⟨[0, 8], 2, 4, 1, 5, 8, true⟩ : St).last = .agg #[.int .i64 4, .int .i64 1, .int .u64 5, .int .u64 8, .bool true] := rfl
theorem first_c : (⟨[0, 8], 2, 4, 1, 5, 8, true⟩ : St).c = 2 := rfl
theorem first_n : ((⟨[0, 8], 2, 4, 1, 5, 8, true⟩ : St).xs.length : Int) = 2 := rfl
end Go.Proofs.Yteofgnifpkcgmaa
