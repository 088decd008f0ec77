/-
  Texts beneath SupplyAll, part 1: Num, Base, Own, Mem, QuietUp, IntRow.
-/
import Derived.Test.YtkopplnjomkleaaGreatRows
import Derived.WalkKit
import Derived.ProofKit
import Derived.Deep.QuietTactic
import Derived.BigQuiet
import Derived.Lib.Hide
import Derived.WalkSmall
import Derived.Deep.AppendLies
import Derived.OwnWalk
import Derived.Deep.RegionHeld3
import Derived.Deep.DrawnRows
import Derived.StillTailTactics
import Derived.Deep.DeepCutAuto
import Derived.Lib.SliceRun
/-
  Small facts that every layer uses; the contract of rundalemake.Number.
-/
namespace Go.Proofs.YtkopplnjomkleaaGreat

theorem ret_int {k : IntKind} {a b : Int} (h : a = b) : Ending.returned (.int k a) = .returned (.int k b) := by rw [h]
theorem ret_bool {a b : Bool} (h : a = b) : Ending.returned (.bool a) = .returned (.bool b) := by rw [h]

theorem ret_two {k : IntKind} {a b : Int} {c : Bool} (h : a = b) : Ending.returned (.tuple #[.int k a, .bool c]) = .returned (.tuple #[.int k b, .bool c]) := by rw [h]
theorem quiet_eq {P : Program} {f : FuncId} {args : Array Value} {w : World} {n : Nat} {v : Value}
    (h : Calls P f args (w.drewN n) fun e w' => e = .returned v ∧ w.drewN n = w') : Calls P f args (w.drewN n) fun e w'' => e = .returned v ∧ ∃ m, w'' = w.drewN m :=
  h.mono fun _ _ ⟨he, hm⟩ => ⟨he, n, hm.symm⟩

theorem number_neg (v n : Int) (h : 0 < n) (h1 : v.tmod n < 0) : v.tmod n + n = v % n := by
  have a := Int.tmod_eq_emod (a := v) (b := n)
  have b := Int.emod_nonneg v (show n ≠ 0 by omega)
  split at a
  · omega
  · have : (n.natAbs : Int) = n := by omega
    omega
theorem number_pos (v n : Int) (h : 0 < n) (h1 : 0 ≤ v.tmod n) : v.tmod n = v % n := by
  have a := Int.tmod_eq_emod (a := v) (b := n)
  have b := Int.emod_lt_of_pos v h
  split at a
  · omega
  · have : (n.natAbs : Int) = n := by omega
    omega
theorem wrap64_in {n : Int} (h0 : -9223372036854775808 ≤ n) (h1 : n < 9223372036854775808) : RowKit.wrap64 n = n := by
  unfold RowKit.wrap64; omega
set_option maxHeartbeats 400000 in
theorem number_any (v n : Int) (w : World) (h : 0 < n) (hn : n < 9223372036854775808) :
    Calls Tryz.prog 9 #[.int .i64 v, .int .i64 n] w fun e w' => e = .returned (.int .i64 (v % n)) ∧ w = w' := by
  go_enter Tryz.func9, Tryz.ntmps9
  go_wp2
  all_goals
    go_ret
    refine ⟨ret_int ?_, rfl⟩
  · have h1 := Int.tmod_lt_of_pos v h
    have h2 := number_neg v n h ‹_›
    have h3 := Int.emod_nonneg v (show n ≠ 0 by omega)
    rw [wrap64_in (by omega) (by omega)]
    exact h2
  · exact number_pos v n h ‹_›
theorem number_is {v n k : Int} (e : v % n = k) (h : 0 < n) (hn : n < 9223372036854775808) (w : World) :
    Calls Tryz.prog 9 #[.int .i64 v, .int .i64 n] w fun e w' => e = .returned (.int .i64 k) ∧ w = w' := e ▸ number_any v n w h hn
theorem emod_letter (v n : Int) (h : 0 < n) : ∃ x, v % n = x ∧ x % n = x ∧ 0 ≤ x ∧ x < n :=
  ⟨_, rfl, Int.emod_emod_of_dvd v (Int.dvd_refl n), Int.emod_nonneg _ (by omega), Int.emod_lt_of_pos _ h⟩
end Go.Proofs.YtkopplnjomkleaaGreat

/-
  Worlds that have only grown: what each contract of code that makes memory says. No program is named here.
-/
namespace Go.Proofs.YtkopplnjomkleaaGreat.W64
end Go.Proofs.YtkopplnjomkleaaGreat.W64
namespace Go.Proofs.YtkopplnjomkleaaGreat
open Go.RowKit

/-- Of what there was nothing has turned. -/
def Up (w w' : World) : Prop := Below w.heap.size w w'
theorem Up.refl (w : World) : Up w w := Below.refl _ _
theorem Up.trans {a b c : World} (h : Up a b) (k : Up b c) : Up a c := Below.trans h (Below.mono k h.size)
theorem Up.alloc (w : World) (o : Obj) : Up w (w.alloc o) := (Below.refl _ _).alloc (Nat.le_refl _) _
theorem Up.drewN (w : World) (m : Nat) : Up w (w.drewN m) := below_drewN (Below.refl _ _) m
theorem Up.then_alloc {a w : World} (h : Up a w) (o : Obj) : Up a (w.alloc o) := h.trans (Up.alloc _ _)
theorem Up.then_drewN {a w : World} (h : Up a w) (m : Nat) : Up a (w.drewN m) := h.trans (Up.drewN _ _)
theorem Up.then_drew {a w : World} (h : Up a w) : Up a w.drew := h.trans (Up.drewN _ 1)
theorem Up.setCell {a w : World} (h : Up a w) {p : Addr} (hp : a.heap.size ≤ p.block) (u : Value) : Up a (w.setCell p u) := Below.setCell h hp u
theorem Up.le {w w' : World} (h : Up w w') : w.heap.size ≤ w'.heap.size := h.size
theorem Up.cell {w w' : World} (h : Up w w') {b o : Nat} {v : Value} (hb : b < w.heap.size) (hc : w.cell? ⟨b, o, none⟩ = some v) : w'.cell? ⟨b, o, none⟩ = some v :=
  (Below.cell h (p := ⟨b, o, none⟩) hb).trans hc
theorem Up.frozen {w w' : World} (h : Up w w') {b o : Nat} {v : Bool} (hb : b < w.heap.size) (hc : w.frozen? ⟨b, o, none⟩ = v) : w'.frozen? ⟨b, o, none⟩ = v :=
  (Below.frozen h (p := ⟨b, o, none⟩) hb).trans hc
theorem Up.kept {w w' : World} (h : Up w w') {p : Addr} {v : Value} (hc : w.cell? p = some v) : w'.cell? p = some v :=
  (Below.cell h (World.block_lt_of_cell? w _ hc)).trans hc
theorem up_two {a w' : World} {p q : Addr} {x y : Value} (u : Up a w') (hx : a.cell? p = some x) (hy : a.cell? q = some y) : w'.cell? p = some x ∧ w'.cell? q = some y ∧ Up a w' := ⟨u.kept hx, u.kept hy, u⟩
theorem Up.cells {W w1 : World} (hb : Up W w1) : (∀ b o, b < W.heap.size → w1.cell? ⟨b, o, none⟩ = W.cell? ⟨b, o, none⟩) ∧ (∀ b o, b < W.heap.size → w1.frozen? ⟨b, o, none⟩ = W.frozen? ⟨b, o, none⟩) :=
  ⟨fun b o h => Below.cell hb (p := ⟨b, o, none⟩) h, fun b o h => Below.frozen hb (p := ⟨b, o, none⟩) h⟩
theorem cell_new {w : World} {cs : Array Value} {t : TypeId} {fr : Nat × Nat} {n i : Nat} {v : Value} (hn : n = w.heap.size) (h : cs[i]? = some v) : (w.alloc (.cells cs t fr)).cell? ⟨n, i, none⟩ = some v := by
  subst hn; rw [World.cell?_alloc_mark]; exact h
/-- A contract that leaves the world alone, weakened: the world behind it is a letter. -/
theorem up_of_same {P : Program} {f : FuncId} {args : Array Value} {w : World} {v : Value}
    (h : Calls P f args w fun e w' => e = .returned v ∧ w = w') : Calls P f args w fun e w' => e = .returned v ∧ Up w w' :=
  h.mono fun _ _ ⟨he, hw⟩ => ⟨he, hw ▸ Up.refl _⟩

/-- A slice of numbers that came in: nil; or a row of 'cap' cells that hold the numbers 'zs', of which the first 'len' are its elements. -/
def IsRow (k : IntKind) (w : World) (a : Option Addr) (len cap : Nat) (zs : List Int) : Prop :=
  (a = none ∧ len = 0 ∧ cap = 0 ∧ zs = []) ∨
  ∃ x, a = some x ∧ len ≤ cap ∧ cap ≤ maxLen ∧ zs.length = cap ∧ (∀ i, i < zs.length → w.cell? (x.add i) = some (.int k (zs.getD i 0))) ∧ ∀ n ∈ zs, (Lit.int k n).wf = true
theorem row_len {k : IntKind} {w : World} {a : Option Addr} {len cap : Nat} {zs : List Int} (h : IsRow k w a len cap zs) : len ≤ maxLen := by
  rcases h with ⟨_, rfl, _, _⟩ | ⟨x, _, hl, hm, _⟩
  · exact Nat.zero_le _
  · omega
theorem row_cell {kd : IntKind} {w : World} {a : Option Addr} {len cap : Nat} {zs : List Int} (h : IsRow kd w a len cap zs) {k : Nat} (hk : k < len) :
    ∃ b off, a = some ⟨b, off, none⟩ ∧ b < w.heap.size ∧ w.cell? ⟨b, off + k, none⟩ = some (.int kd (zs.getD k 0)) := by
  rcases h with ⟨_, rfl, _, _⟩ | ⟨x, rfl, hl, hm, hz, hc, _⟩
  · omega
  · obtain ⟨b, off, spot⟩ := x
    have h0 := hc 0 (by omega)
    have hs : spot = none := by simpa [Addr.add] using World.cell?_spot h0
    subst hs
    have h1 := hc k (by omega)
    have e : (⟨b, off, none⟩ : Addr).add k = ⟨b, off + k, none⟩ := by
      unfold Addr.add; split
      · subst_vars; rfl
      · rfl
    rw [e] at h1
    exact ⟨b, off, rfl, World.block_lt_of_cell? w _ h1, h1⟩
end Go.Proofs.YtkopplnjomkleaaGreat

/-
  Rows and blocks of the call's own, in a world that has only grown. No program is named here.
-/
namespace Go.Proofs.YtkopplnjomkleaaGreat
open Go.RowKit

theorem up_three {a w' : World} {p q r : Addr} {x y z : Value} (u : Up a w') (hx : a.cell? p = some x) (hy : a.cell? q = some y) (hz : a.cell? r = some z) :
    w'.cell? p = some x ∧ w'.cell? q = some y ∧ w'.cell? r = some z ∧ Up a w' := ⟨u.kept hx, u.kept hy, u.kept hz, u⟩
theorem some_lt {w : World} {g : Nat} {o : Obj} (h : w.heap[g]? = some o) : g < w.heap.size := by
  rcases Nat.lt_or_ge g w.heap.size with h' | h'
  · exact h'
  · rw [Array.getElem?_eq_none h'] at h; cases h
theorem Up.heap {w w' : World} (u : Up w w') {g : Nat} {o : Obj} (h : w.heap[g]? = some o) : w'.heap[g]? = some o :=
  (u.block g (some_lt h)).trans h
theorem own_up {wr wx : World} {base size n : Nat} {e : TypeId} {v : Value} {xs : List Value} (h : wr.ownsRow base e size v n xs) (u : Up wr wx) : wx.ownsRow base e size v n xs :=
  ⟨h.1, h.2.imp id fun ⟨g, cap, cur, hv, hb, hh, r⟩ => ⟨g, cap, cur, hv, hb, u.heap hh, r⟩⟩
theorem own_slice {w : World} {base size n : Nat} {e : TypeId} {v : Value} {xs : List Value} (h : w.ownsRow base e size v n xs) : ∃ A cap, v = .slice A n cap := by
  rcases h.2 with ⟨h1, h2⟩ | ⟨g, cap, _, hv, _⟩
  · subst h2; exact ⟨_, _, h1⟩
  · exact ⟨_, _, hv⟩
theorem own_cell {w : World} {base n j cap : Nat} {e : TypeId} {A : Option Addr} {xs : List Value} (h : w.ownsRow base e 1 (.slice A n cap) n xs) (hj : j < n) :
    ∃ g, A = some ⟨g, 0, none⟩ ∧ w.cell? ⟨g, j, none⟩ = xs[j]? := by
  rcases h.2 with ⟨_, h2⟩ | ⟨g, c, cur, hv, hb, hh, hn, hc, hs, ht⟩
  · omega
  · injection hv with h1
    refine ⟨g, h1, ?_⟩
    have e1 : w.cell? ⟨g, j, none⟩ = cur[j]? := by simp [World.cell?, hh]
    rw [e1, ← ht, List.getElem?_take, if_pos (by omega)]; simp
theorem own_ne {w : World} {base size n g : Nat} {e : TypeId} {v : Value} {xs : List Value} (h : w.ownsRow base e size v n xs) (hg : g < base) : some g ≠ v.ownBlock := by
  rcases h.2 with ⟨rfl, _⟩ | ⟨g', cap, cur, rfl, hb, _⟩
  · simp [Value.ownBlock]
  · intro he; simp [Value.ownBlock] at he; omega
theorem own_lt {w : World} {base size n g : Nat} {e : TypeId} {v : Value} {xs : List Value} (h : w.ownsRow base e size v n xs) (hg : w.heap.size ≤ g) : some g ≠ v.ownBlock := by
  rcases h.2 with ⟨rfl, _⟩ | ⟨g', cap, cur, rfl, hb, hh, _⟩
  · simp [Value.ownBlock]
  · intro he; simp [Value.ownBlock] at he; have := some_lt hh; omega
theorem own_ge {w : World} {base size n : Nat} {e : TypeId} {v : Value} {xs : List Value} (h : w.ownsRow base e size v n xs) : ∀ k, v.ownBlock = some k → base ≤ k := by
  rcases h.2 with ⟨rfl, _⟩ | ⟨g', cap, cur, rfl, hb, _⟩
  · intro k hk; simp [Value.ownBlock] at hk
  · intro k hk; simp [Value.ownBlock] at hk; omega
theorem one_new (w : World) (v : Value) (t : TypeId) : ∀ j u, [v][j]? = some u → (w.alloc (.cells #[v] t)).cell? ((⟨w.heap.size, 0, none⟩ : Addr).add j) = some u := by
  intro j u hj
  match j, hj with
  | 0, hj => simp at hj; subst hj; simp [Addr.add]
  | j + 1, hj => simp at hj
theorem own_set {w : World} {base size n : Nat} {e : TypeId} {v : Value} {xs : List Value} (h : w.ownsRow base e size v n xs) {p : Addr} (hp : p.block < base) (u : Value) : (w.setCell p u).ownsRow base e size v n xs :=
  ownsRow_setCell_below h hp u

/-- Block g is just these cells, none frozen. -/
def Whole (w : World) (g : Nat) (t : TypeId) (cs : Array Value) : Prop := w.heap[g]? = some (.cells cs t (0, 0))
theorem Whole.lt {w : World} {g : Nat} {t : TypeId} {cs : Array Value} (h : Whole w g t cs) : g < w.heap.size := some_lt h
theorem Whole.cell {w : World} {g : Nat} {t : TypeId} {cs : Array Value} (h : Whole w g t cs) {i : Nat} {v : Value} (hv : cs[i]? = some v) : w.cell? ⟨g, i, none⟩ = some v := by
  unfold Whole at h; simp [World.cell?, h, hv]
theorem Whole.frozen {w : World} {g : Nat} {t : TypeId} {cs : Array Value} (h : Whole w g t cs) (i : Nat) : w.frozen? ⟨g, i, none⟩ = false := by
  unfold Whole at h; simp [World.frozen?, h]
theorem Whole.up {w w' : World} {g : Nat} {t : TypeId} {cs : Array Value} (h : Whole w g t cs) (u : Up w w') : Whole w' g t cs := u.heap h
theorem Whole.new (w : World) (t : TypeId) (cs : Array Value) : Whole (w.alloc (.cells cs t)) w.heap.size t cs := heap_alloc_new w _
theorem Whole.grown {w w' : World} {g : Nat} {t : TypeId} {cs : Array Value} {row : Option Nat} (h : Whole w g t cs) (hg : w.grownBy w' row) (hne : some g ≠ row) : Whole w' g t cs :=
  (hg.block g h.lt hne).trans h
theorem Whole.set {w : World} {g : Nat} {t : TypeId} {cs : Array Value} (h : Whole w g t cs) (i : Nat) (u : Value) : Whole (w.setCell ⟨g, i, none⟩ u) g t (cs.setIfInBounds i u) := by
  unfold Whole at h ⊢; simp [World.setCell, Array.getElem?_modify, h]
theorem Up.grown {a w w' : World} {row : Option Nat} (h : Up a w) (hg : w.grownBy w' row) (hr : ∀ k, row = some k → a.heap.size ≤ k) : Up a w' := Below.grown h hg h.size hr
theorem Up.set {a w : World} (h : Up a w) {g i : Nat} (hg : a.heap.size ≤ g) (u : Value) : Up a (w.setCell ⟨g, i, none⟩ u) := Below.setCell h hg u
end Go.Proofs.YtkopplnjomkleaaGreat

/-
  Worlds that differ in some blocks alone: what a contract says of code that writes into objects of its caller's. No program is named here.
-/
namespace Go.Proofs.YtkopplnjomkleaaGreat
open Go.RowKit

/-- Of what there was nothing has turned but for the blocks s. -/
structure Else (s : List Nat) (w w' : World) : Prop where
  os : w'.os = w.os
  tape : w'.tape = w.tape
  output : w'.output = w.output
  size : w.heap.size ≤ w'.heap.size
  block : ∀ k, k < w.heap.size → k ∉ s → w'.heap[k]? = w.heap[k]?
theorem Else.refl (s : List Nat) (w : World) : Else s w w := ⟨rfl, rfl, rfl, Nat.le_refl _, fun _ _ _ => rfl⟩
theorem Else.trans {s : List Nat} {a b c : World} (h : Else s a b) (k : Else s b c) : Else s a c :=
  ⟨k.os.trans h.os, k.tape.trans h.tape, k.output.trans h.output, Nat.le_trans h.size k.size, fun i hi hs => (k.block i (Nat.lt_of_lt_of_le hi h.size) hs).trans (h.block i hi hs)⟩
theorem Else.of_up {s : List Nat} {w w' : World} (h : Up w w') : Else s w w' := ⟨h.os, h.tape, h.output, h.size, fun k hk _ => h.block k hk⟩
theorem Else.up_of {w w' : World} (h : Else [] w w') : Up w w' := ⟨h.os, h.tape, h.output, h.size, fun k hk => h.block k hk (by simp)⟩
theorem Else.more {s t : List Nat} {w w' : World} (h : Else s w w') (hst : ∀ k, k ∈ s → k ∈ t) : Else t w w' := ⟨h.os, h.tape, h.output, h.size, fun k hk hs => h.block k hk (fun h' => hs (hst k h'))⟩
theorem Else.alloc {s : List Nat} {a w : World} (h : Else s a w) (o : Obj) : Else s a (w.alloc o) := h.trans (Else.of_up (Up.alloc w o))
theorem Else.drew {s : List Nat} {a w : World} (h : Else s a w) : Else s a w.drew := h.trans (Else.of_up (Up.drewN w 1))
theorem Else.drewN {s : List Nat} {a w : World} (h : Else s a w) (n : Nat) : Else s a (w.drewN n) := h.trans (Else.of_up (Up.drewN w n))
theorem Else.up {s : List Nat} {a w w' : World} (h : Else s a w) (u : Up w w') : Else s a w' := h.trans (Else.of_up u)
/-- A store into one of these blocks, or into one that is new. -/
theorem Else.set {s : List Nat} {a w : World} (h : Else s a w) {p : Addr} (hp : p.block ∈ s ∨ a.heap.size ≤ p.block) (v : Value) : Else s a (w.setCell p v) := by
  have b := Below.setCell (Below.refl p.block w) (Nat.le_refl _) v
  refine ⟨b.os.trans h.os, b.tape.trans h.tape, b.output.trans h.output, Nat.le_trans h.size b.size, fun k hk hs => ?_⟩
  have hne : k ≠ p.block := by
    rcases hp with hp | hp
    · intro e; exact hs (e ▸ hp)
    · omega
  exact (Below.heap_setCell w p v k hne).trans (h.block k hk hs)
/-- New blocks are nobody's: what was done to them alone is nothing to the elder world. -/
theorem Else.up_new {s : List Nat} {a w w' : World} (u : Up a w) (h : Else s w w') (hs : ∀ k, k ∈ s → a.heap.size ≤ k) : Up a w' :=
  ⟨h.os.trans u.os, h.tape.trans u.tape, h.output.trans u.output, Nat.le_trans u.size h.size, fun k hk => (h.block k (Nat.lt_of_lt_of_le hk u.size) (fun h' => by have := hs k h'; omega)).trans (u.block k hk)⟩
theorem Else.heap {s : List Nat} {w w' : World} (h : Else s w w') {g : Nat} {o : Obj} (hg : w.heap[g]? = some o) (hs : g ∉ s) : w'.heap[g]? = some o := (h.block g (some_lt hg) hs).trans hg
theorem Else.whole {s : List Nat} {w w' : World} (h : Else s w w') {g : Nat} {t : TypeId} {cs : Array Value} (hw : Whole w g t cs) (hs : g ∉ s) : Whole w' g t cs := h.heap hw hs
theorem Else.kept {s : List Nat} {w w' : World} (h : Else s w w') {p : Addr} {v : Value} (hc : w.cell? p = some v) (hs : p.block ∉ s) : w'.cell? p = some v :=
  (World.cell?_of_block (w := w) (h.block p.block (World.block_lt_of_cell? w _ hc) hs)).trans hc
/-- A store elsewhere. -/
theorem Whole.far {w : World} {g : Nat} {t : TypeId} {cs : Array Value} (h : Whole w g t cs) {p : Addr} (hp : g ≠ p.block) (v : Value) : Whole (w.setCell p v) g t cs :=
  (Below.heap_setCell w p v g hp).trans h
theorem Whole.alloc {w : World} {g : Nat} {t : TypeId} {cs : Array Value} (h : Whole w g t cs) (o : Obj) : Whole (w.alloc o) g t cs := h.up (Up.alloc w o)
theorem Whole.drewN {w : World} {g : Nat} {t : TypeId} {cs : Array Value} (h : Whole w g t cs) (n : Nat) : Whole (w.drewN n) g t cs := h
end Go.Proofs.YtkopplnjomkleaaGreat

/-
  A region that draws its order, whose operations only read and whose callees may make memory of their own: one walk in the order of the text, at the class of the worlds in which of W nothing has turned. No program is named here.
-/
namespace Go.Proofs.YtkopplnjomkleaaGreat
open Go.RowKit

/-- The worlds in which of W nothing has turned. -/
structure UpOf (W : World) where
  w : World
  up : Up W w
instance (W : World) : Nonempty (UpOf W) := ⟨⟨W, Up.refl W⟩⟩
theorem up_drew (w : World) : Up w w.drew := Up.drewN w 1
theorem calls_up {P : Program} {f : FuncId} {args : Array Value} {v : Ending} {W w : World} (u : Up W w) (h : Calls P f args w fun e w' => e = v ∧ Up w w') : Calls P f args w fun e w' => e = v ∧ Up W w' :=
  h.mono fun _ _ ⟨he, hu⟩ => ⟨he, u.trans hu⟩
/-- The beginning. -/
theorem wp_region_up {P : Program} {id : Nat} {Q : Exit → Act → World → Prop} {a : Act} {W w : World} {l : List Oper} (u : Up W w) (hm : P.follows .mixedOrders = true) (hB : Region.lexB .any l.toArray = true)
    (h : wpQuiet P l.toArray (fun w' => ∃ x : UpOf W, w' = x.w) (fun a' => ∀ w', (∃ x : UpOf W, w' = x.w) → Q .normal a' w') l a) : (Code.region id l.toArray true).wp P Q a w :=
  wp_region_quiet (C := fun w' => ∃ x : UpOf W, w' = x.w) hm hB ⟨⟨w.drew, u.trans (up_drew _)⟩, rfl⟩ (by simpa using h)
/-- A region that only reads, its world written out. -/
theorem wp_region_one {P : Program} {id : Nat} {Q : Exit → Act → World → Prop} {a : Act} {w : World} {l : List Oper} (hm : P.follows .mixedOrders = true) (hB : Region.lexB .any l.toArray = true)
    (h : wpQuiet P l.toArray (fun w' => w' = w.drew) (fun a' => ∀ w', w' = w.drew → Q .normal a' w') l a) : (Code.region id l.toArray true).wp P Q a w :=
  wp_region_quiet (C := fun w' => w' = w.drew) hm hB rfl (by simpa using h)
/-- A contract, at the class. -/
theorem up_class {P : Program} {f : FuncId} {args : Array Value} {v : Value} {W : World} {x : UpOf W} (h : Calls P f args x.w fun e w' => e = .returned v ∧ Up x.w w') :
    Calls P f args x.w fun e w' => e = .returned v ∧ ∃ y : UpOf W, w' = y.w :=
  h.mono fun _ w' ⟨he, hu⟩ => ⟨he, ⟨w', x.up.trans hu⟩, rfl⟩
theorem same_class {P : Program} {f : FuncId} {args : Array Value} {v : Value} {W : World} {x : UpOf W} (h : Calls P f args x.w fun e w' => e = .returned v ∧ x.w = w') :
    Calls P f args x.w fun e w' => e = .returned v ∧ ∃ y : UpOf W, w' = y.w :=
  h.mono fun _ _ ⟨he, hu⟩ => ⟨he, x, hu.symm⟩
theorem class_first {P : Program} {f : FuncId} {args : Array Value} {v : Value} {W : World} (h : Calls P f args W fun e w' => e = .returned v ∧ Up W w') :
    Calls P f args W fun e w' => e = .returned v ∧ ∃ y : UpOf W, w' = y.w :=
  h.mono fun _ w' ⟨he, hu⟩ => ⟨he, ⟨w', hu⟩, rfl⟩
theorem cell_class {W : World} {p : Addr} {v : Value} (h : W.cell? p = some v) (x : UpOf W) : x.w.cell? p = some v := x.up.kept h
end Go.Proofs.YtkopplnjomkleaaGreat

/-
  Slices of ints: one that is read (Rd), one that is the beginning of a block of its own, or nil (Ints); append, slices.Clone, the reference's SameInts. (Layers without a stack; the stack's texts have the same in Ints, Stack1, App, Lists.)
-/
namespace Go.Proofs.YtkopplnjomkleaaGreat
open Go.RowKit
set_option maxRecDepth 100000

/-- The slice v reads as xs. -/
def Rd (w : World) (v : Value) (xs : List Int) : Prop :=
  ∃ A cap, v = .slice A xs.length cap ∧ xs.length ≤ maxLen ∧ ∀ j, j < xs.length → ∃ g off, A = some ⟨g, off, none⟩ ∧ w.cell? ⟨g, off + j, none⟩ = some (.int .i64 (xs.getD j 0))
/-- The slice v is the beginning of a block of its own, or nil, and reads as xs. -/
def Ints (w : World) (v : Value) (xs : List Int) : Prop := w.ownsRow 0 3 1 v xs.length (xs.map (Value.int .i64))
/-- None of the blocks l is the slice's. -/
def Away (v : Value) (l : List Nat) : Prop := ∀ k, k ∈ l → v.ownBlock ≠ some k
theorem Rd.else {w w' : World} {v : Value} {xs : List Int} {l : List Nat} (h : Rd w v xs) (u : Else l w w') (a : Away v l) : Rd w' v xs := by
  obtain ⟨A, cap, rfl, hm, hc⟩ := h
  refine ⟨A, cap, rfl, hm, fun j hj => ?_⟩
  obtain ⟨g, off, rfl, h1⟩ := hc j hj
  exact ⟨g, off, rfl, u.kept h1 (fun hk => a _ hk rfl)⟩
theorem Rd.up {w w' : World} {v : Value} {xs : List Int} (h : Rd w v xs) (u : Up w w') : Rd w' v xs := by
  obtain ⟨A, cap, rfl, hm, hc⟩ := h
  refine ⟨A, cap, rfl, hm, fun j hj => ?_⟩
  obtain ⟨g, off, rfl, h1⟩ := hc j hj
  exact ⟨g, off, rfl, u.kept h1⟩
theorem Rd.nil (w : World) : Rd w (.slice none 0 0) [] := ⟨none, 0, rfl, Nat.zero_le _, fun j hj => absurd hj (by simp)⟩
theorem Ints.nil (w : World) : Ints w (.slice none 0 0) [] := ⟨rfl, .inl ⟨rfl, rfl⟩⟩
theorem Ints.up {w w' : World} {v : Value} {xs : List Int} (h : Ints w v xs) (u : Up w w') : Ints w' v xs := own_up h u
theorem Ints.else {w w' : World} {v : Value} {xs : List Int} {l : List Nat} (h : Ints w v xs) (u : Else l w w') (a : Away v l) : Ints w' v xs := by
  refine ⟨h.1, ?_⟩
  rcases h.2 with h | ⟨g, cap, cur, rfl, hb, hh, r⟩
  · exact .inl h
  · exact .inr ⟨g, cap, cur, rfl, hb, u.heap hh (fun hk => a _ hk rfl), r⟩
theorem Ints.grown {w w' : World} {v : Value} {xs : List Int} {row : Option Nat} (h : Ints w v xs) (u : w.grownBy w' row) (a : row ≠ v.ownBlock ∨ v.ownBlock = none) : Ints w' v xs := by
  refine ⟨h.1, ?_⟩
  rcases h.2 with h | ⟨g, cap, cur, rfl, hb, hh, r⟩
  · exact .inl h
  · refine .inr ⟨g, cap, cur, rfl, hb, (u.block g (some_lt hh) ?_).trans hh, r⟩
    rcases a with a | a
    · intro e; exact a (by rw [← e]; rfl)
    · simp [Value.ownBlock] at a
theorem Ints.rd {w : World} {v : Value} {xs : List Int} (h : Ints w v xs) : Rd w v xs := by
  rcases h.2 with ⟨rfl, h0⟩ | ⟨g, cap, cur, rfl, hb, hh, hn, hm, hs, ht⟩
  · have : xs = [] := List.length_eq_zero_iff.1 h0
    subst this; exact Rd.nil w
  · refine ⟨_, _, rfl, Nat.le_trans hn hm, fun j hj => ⟨g, 0, rfl, ?_⟩⟩
    obtain ⟨g', e, hc⟩ := own_cell h hj
    injection e with e; injection e with e; subst e
    rw [Nat.zero_add, hc]
    simp [List.getD, hj]
theorem Ints.lt {w : World} {v : Value} {xs : List Int} (h : Ints w v xs) {k : Nat} (hk : v.ownBlock = some k) : k < w.heap.size := by
  rcases h.2 with ⟨rfl, _⟩ | ⟨g, cap, cur, rfl, _, hh, _⟩
  · simp [Value.ownBlock] at hk
  · simp [Value.ownBlock] at hk; subst hk; exact some_lt hh
theorem Ints.slice {w : World} {v : Value} {xs : List Int} (h : Ints w v xs) : ∃ A cap, v = .slice A xs.length cap := own_slice h
theorem Rd.slice {w : World} {v : Value} {xs : List Int} (h : Rd w v xs) : ∃ A cap, v = .slice A xs.length cap := by
  obtain ⟨A, cap, e, _⟩ := h; exact ⟨A, cap, e⟩
theorem Rd.len {w : World} {v : Value} {xs : List Int} (h : Rd w v xs) : xs.length ≤ maxLen := by
  obtain ⟨A, cap, _, e, _⟩ := h; exact e
theorem Rd.cell {w : World} {A : Option Addr} {cap n : Nat} {xs : List Int} (h : Rd w (.slice A n cap) xs) {j : Nat} (hj : j < xs.length) : ∃ g off, A = some ⟨g, off, none⟩ ∧ w.cell? ⟨g, off + j, none⟩ = some (.int .i64 (xs.getD j 0)) := by
  obtain ⟨A', cap', e, _, hc⟩ := h
  injection e with e1; subst e1; exact hc j hj

theorem take_get {xs : List Int} {k : Nat} (h : k < xs.length) : xs.take (k + 1) = xs.take k ++ [xs.getD k 0] := by
  rw [List.take_add_one]; simp [List.getD, h]
theorem get_mem {xs : List Int} {k : Nat} (h : k < xs.length) : xs.getD k 0 ∈ xs := by simp [List.getD, h]
theorem info_int : (Tryz.prog.info? 3).map (fun i => (i.zero, i.size, i.bytes)) = some (some (.int .i64 0), 1, 8) := by kernel_rfl
theorem one_ints (xs : List Int) : ∀ u ∈ xs.map (Value.int .i64), u.oneCell' = true := by
  intro u hu; obtain ⟨x, _, rfl⟩ := List.mem_map.1 hu; rfl
theorem Rd.news {w w' : World} {b off n cap : Nat} {xs : List Int} (h : Rd w (.slice (some ⟨b, off, none⟩) n cap) xs) (u : Up w w') : ∀ j x, (xs.map (Value.int .i64))[j]? = some x → w'.cell? ((⟨b, off, none⟩ : Addr).add j) = some x := by
  intro j x hx
  have hj : j < xs.length := by
    rcases Nat.lt_or_ge j xs.length with h | h
    · exact h
    · rw [List.getElem?_eq_none (by simpa using h)] at hx; cases hx
  obtain ⟨g, o, e, hc⟩ := h.cell hj
  injection e with e; injection e with e1 e2; subst e1 e2
  have hadd : (⟨b, off, none⟩ : Addr).add j = ⟨b, off + j, none⟩ := by
    unfold Addr.add; split
    · subst_vars; rfl
    · rfl
  rw [hadd, u.kept hc]
  simp [hj] at hx
  rw [← hx]
  simp [List.getD, hj]
theorem own_empty (w : World) : (w.alloc (.cells #[] 3)).ownsRow w.heap.size 3 1 (.slice (some ⟨w.heap.size, 0, none⟩) 0 0) 0 [] :=
  ⟨rfl, .inr ⟨w.heap.size, 0, #[], rfl, Nat.le_refl _, heap_alloc_new w _, Nat.le_refl _, Nat.zero_le _, rfl, rfl⟩⟩
theorem ints_of_own {w : World} {base n : Nat} {v : Value} {vs : List Value} {xs : List Int} (h : w.ownsRow base 3 1 v n vs) (hn : n = xs.length) (hv : vs = xs.map (Value.int .i64)) : Ints w v xs := by
  subst hn hv
  refine ⟨h.1, h.2.imp id fun ⟨g, cap, cur, hv, hb, r⟩ => ⟨g, cap, cur, hv, Nat.zero_le _, r⟩⟩
set_option maxHeartbeats 1000000 in
theorem clone_nil (w : World) : Calls Tryz.prog 106 #[.slice none 0 0] w fun e w' => e = .returned (.slice none 0 0) ∧ w = w' := by
  have q1 : ∀ (w : World) (a : Option Addr) (n c n' c' : Nat), (binOp .eql 22 (.slice a n c) (.slice none n' c')).run Tryz.prog w = .ok (.bool a.isNone) w := fun w a n c n' c' => Lib.run_eql_slice_nil w _ _ a n c n' c' Tryz.underlying22
  go_enter Tryz.func106, Tryz.ntmps106
  go_wp2_with fail
  go_ret
  exact ⟨rfl, rfl⟩
set_option maxHeartbeats 1000000 in
theorem clone_in {w : World} {v : Value} {xs : List Int} (R : Rd w v xs) (h : xs ≠ []) (hl : xs.length ≤ 8192) :
    Calls Tryz.prog 106 #[v] w fun e w' => ∃ b cap, e = .returned (.slice (some ⟨b, 0, none⟩) xs.length cap) ∧ Ints w' (.slice (some ⟨b, 0, none⟩) xs.length cap) xs ∧ w.heap.size ≤ b ∧ b < w'.heap.size ∧ Up w w' := by
  have hp := List.length_pos_iff.2 h
  obtain ⟨A, cap, rfl⟩ := R.slice
  obtain ⟨b, off, rfl, _⟩ := R.cell hp
  have HN := Lib.hid (R.news (Up.alloc w (.cells #[] 3)))
  have q1 : ∀ (w : World) (a : Option Addr) (n c n' c' : Nat), (binOp .eql 22 (.slice a n c) (.slice none n' c')).run Tryz.prog w = .ok (.bool a.isNone) w := fun w a n c n' c' => Lib.run_eql_slice_nil w _ _ a n c n' c' Tryz.underlying22
  obtain ⟨i9, hi, hz0, hz1, hz2⟩ := info_parts info_int
  have g63 : 0 + xs.length ≤ maxLen := by unfold maxLen; omega
  have gby : (0 + xs.length) * 8 ≤ 140737488355328 := by omega
  have gba : w.heap.size ≤ (w.alloc (.cells #[] 3)).heap.size := by simp
  have hb0 : (w.alloc (.cells #[] 3)).heap.size = w.heap.size + 1 := by simp
  clear R h
  go_enter Tryz.func106, Tryz.ntmps106
  go_wp2_with (at_builtin; refine wpList_append_lies _ rfl _ _ 22 rfl w.heap.size 3 i9 (.int .i64 0) 1 8 Tryz.underlying22 hi hz0 hz1 hz2 rfl (by decide) (.slice (some ⟨w.heap.size, 0, none⟩) 0 0) 0 [] rfl (own_empty w) ⟨b, off, none⟩ xs.length cap (xs.map (Value.int .i64)) rfl (by simp) HN.out (one_ints xs) hp g63 gby gba _ hb0 ?_; intro gg cap2 wD hownD hgrow hat hltD; have HO := Lib.hid hownD; have HG := Lib.hid hgrow; clear hownD hgrow)
  go_ret
  refine ⟨gg, cap2, by simp, by simpa using ints_of_own HO.out (by simp) (by simp), ?_, hltD, ((Up.refl _).then_alloc _).grown HG.out (fun k hk => by simp [Value.ownBlock] at hk; omega)⟩
  rcases hat with h | h
  · simp [Value.ownBlock] at h; omega
  · omega
/-- A slice in a new block, or nil. -/
def Fresh (w : World) (v : Value) : Prop := ∀ k, v.ownBlock = some k → w.heap.size ≤ k
theorem fresh_nil (w : World) : Fresh w (.slice none 0 0) := fun k hk => by simp [Value.ownBlock] at hk
section
variable {w w1 w' : World} {v v2 : Value} {xs ys : List Int}
theorem run_app (ty : TypeId) (J : Ints w v xs) (R : Rd w v2 ys) (hl : xs.length + ys.length ≤ 8192) :
    ∃ v' w', (Builtin.append_ #[22, 22] ty #[v, v2]).run Tryz.prog w = .ok v' w' ∧ Ints w' v' (xs ++ ys) ∧ w.grownBy w' v.ownBlock ∧ (v'.ownBlock = v.ownBlock ∨ v'.ownBlock = some w.heap.size) := by
  obtain ⟨i9, hi, hz0, hz1, hz2⟩ := info_parts info_int
  by_cases h0 : ys = []
  · subst h0
    obtain ⟨A, cap, rfl⟩ := R.slice
    refine ⟨v, w, ?_, by simpa using J, ⟨rfl, rfl, rfl, Nat.le_refl _, fun _ _ _ => rfl⟩, .inl rfl⟩
    have hf : (Builtin.firstCells i9.size 0 (.slice A 0 cap)).run Tryz.prog w = .ok #[] w := by
      cases A with
      | none => exact run_firstCells_none _ _ _ _ _
      | some a => exact run_firstCells_some (P := Tryz.prog) w i9.size 0 a 0 cap [] (by simp) (by simp)
    rcases J.2 with ⟨rfl, _⟩ | ⟨g, c, cur, rfl, _, hg, hc, _⟩
    · simp [Builtin.append_, run_underlying Tryz.underlying22, sizeOf, typeInfo, hi, Builtin.lenOf, hf]
    · have hc2 : xs.length ≤ c := hc
      simp [Builtin.append_, run_underlying Tryz.underlying22, sizeOf, typeInfo, hi, Builtin.lenOf, hf, hc2, storeCells]
  · have hp := List.length_pos_iff.2 h0
    obtain ⟨A, cap, rfl⟩ := R.slice
    obtain ⟨b, off, rfl, _⟩ := R.cell hp
    obtain ⟨g, c, w', hr, h2, h3, h4, h5⟩ := run_append_lies (P := Tryz.prog) w 22 ty 0 3 i9 (.int .i64 0) 1 8 Tryz.underlying22 hi hz0 hz1 hz2 rfl (by decide) v xs.length (xs.map (Value.int .i64)) J ⟨b, off, none⟩ ys.length cap (ys.map (Value.int .i64)) (by simp) (R.news (Up.refl _)) (one_ints ys) hp (by unfold maxLen; omega) (by omega) (Nat.zero_le _) _ rfl
    refine ⟨_, w', hr, ints_of_own h2 (by simp) (by simp), h3, ?_⟩
    rcases h4 with h | h
    · exact .inl h.symm
    · exact .inr (by rw [h]; rfl)
theorem wp_app {o : Oper} {a : Act} {K : Act → World → Prop} {Q : Exit → Act → World → Prop} (s x : Operand)
    (ho : o.op = .call { callee := .builtin .append, args := #[s, x], argTypes := #[22, 22] }) (hs : a.eval s = v) (hx : a.eval x = v2) (J : Ints w v xs) (R : Rd w v2 ys) (hl : xs.length + ys.length ≤ 8192)
    (h : ∀ v' w', Ints w' v' (xs ++ ys) → w.grownBy w' v.ownBlock → (v'.ownBlock = v.ownBlock ∨ v'.ownBlock = some w.heap.size) → K (a.put o.dst v') w') : o.wp Tryz.prog a w K Q := by
  obtain ⟨v', w', hr, h2, h3, h4⟩ := run_app o.type J R hl
  unfold Oper.wp execOp
  simp only [ho, resolve, invoke, builtin, Sem.run_bind, Sem.run_pure, Result.andThen_ok, List.map_toArray, List.map_cons, List.map_nil, hs, hx, hr]
  exact h v' w' h2 h3 h4
theorem wpList_app {ops : Array Oper} {rest : List Oper} {o : Oper} {a : Act} {Q : Exit → Act → World → Prop} (hgd : o.guard = none) (s x : Operand)
    (ho : o.op = .call { callee := .builtin .append, args := #[s, x], argTypes := #[22, 22] }) (hs : a.eval s = v) (hx : a.eval x = v2) (J : Ints w v xs) (R : Rd w v2 ys) (hl : xs.length + ys.length ≤ 8192)
    (h : ∀ v' w', Ints w' v' (xs ++ ys) → w.grownBy w' v.ownBlock → (v'.ownBlock = v.ownBlock ∨ v'.ownBlock = some w.heap.size) → wpList Tryz.prog ops Q rest (a.put o.dst v') w') : wpList Tryz.prog ops Q (o :: rest) a w :=
  wpList_plain hgd fun _ hK => wp_app s x ho hs hx J R hl fun v' w' h2 h3 h4 => hK _ _ (h v' w' h2 h3 h4)
/-- The same where the operation stands behind a guard that is met. -/
theorem wpList_appG {ops : Array Oper} {rest : List Oper} {o : Oper} {a : Act} {Q : Exit → Act → World → Prop} (hgd : Region.wanted o (yielded ops a.tmps) = true) (s x : Operand)
    (ho : o.op = .call { callee := .builtin .append, args := #[s, x], argTypes := #[22, 22] }) (hs : a.eval s = v) (hx : a.eval x = v2) (J : Ints w v xs) (R : Rd w v2 ys) (hl : xs.length + ys.length ≤ 8192)
    (h : ∀ v' w', Ints w' v' (xs ++ ys) → w.grownBy w' v.ownBlock → (v'.ownBlock = v.ownBlock ∨ v'.ownBlock = some w.heap.size) → wpList Tryz.prog ops Q rest (a.put o.dst v') w') : wpList Tryz.prog ops Q (o :: rest) a w :=
  wpList_step fun K hK => by
    rw [hgd, if_pos rfl]
    exact wp_app s x ho hs hx J R hl fun v' w' h2 h3 h4 => hK _ _ (h v' w' h2 h3 h4)
theorem ints_new (w : World) (a : Int) : Ints (w.alloc (.cells #[.int .i64 a] 3)) (.slice (some ⟨w.heap.size, 0, none⟩) 1 1) [a] :=
  ⟨rfl, .inr ⟨w.heap.size, 1, _, rfl, Nat.zero_le _, heap_alloc_new w _, Nat.le_refl _, by unfold maxLen; omega, rfl, rfl⟩⟩
/-- Whatever it was appended to: what was there is there, but for the row itself. -/
theorem up_app {a : World} (u : Up a w) (hg : w.grownBy w' v.ownBlock) (F : Fresh a v) : Up a w' := u.grown hg fun k hk => F k hk
theorem fresh_app {a : World} {v' : Value} (F : Fresh a v) (u : a.heap.size ≤ w.heap.size) (h : v'.ownBlock = v.ownBlock ∨ v'.ownBlock = some w.heap.size) : Fresh a v' := by
  intro k hk
  rcases h with h | h
  · exact F k (h ▸ hk)
  · rw [hk] at h; injection h with h; omega

theorem rd_one (w : World) (a : Int) : Rd (w.alloc (.cells #[.int .i64 a] 3)) (.slice (some ⟨w.heap.size, 0, none⟩) 1 1) [a] := by
  refine ⟨_, _, rfl, by unfold maxLen; simp, fun j hj => ⟨_, _, rfl, ?_⟩⟩
  simp at hj; subst hj
  exact cell_new rfl rfl
theorem rd_two (w : World) (a b : Int) : Rd (w.alloc (.cells #[.int .i64 a, .int .i64 b] 3)) (.slice (some ⟨w.heap.size, 0, none⟩) 2 2) [a, b] := by
  refine ⟨_, _, rfl, by unfold maxLen; simp, fun j hj => ⟨_, _, rfl, ?_⟩⟩
  have : j = 0 ∨ j = 1 := by simp at hj; omega
  rcases this with rfl | rfl
  · exact cell_new rfl rfl
  · exact cell_new rfl rfl
set_option maxHeartbeats 2000000 in
theorem same_in {xs : List Int} (R : Rd w v xs) (R2 : Rd w v2 xs) : Calls Tryz.prog 11 #[v, v2] w fun e w' => e = .returned (.bool true) ∧ Up w w' := by
  obtain ⟨A, cap, rfl⟩ := R.slice
  obtain ⟨A2, cap2, rfl⟩ := R2.slice
  have hm := R.len
  unfold maxLen at hm
  have HR := Lib.hid R
  have HR2 := Lib.hid R2
  clear R R2
  go_enter Tryz.func11, Tryz.ntmps11
  go_wp2_with fail
  go_loopw [5] (fun i wr => ∃ k : Nat, k ≤ xs.length ∧ i = .int .i64 k ∧ Up w wr) (fun i _ => xs.length - (intOf i).toNat)
  case atStart => exact ⟨0, Nat.zero_le _, rfl, Up.refl _⟩
  case round =>
    obtain ⟨k, hk, rfl, hu⟩ := hrel
    have HU := Lib.hid hu
    clear hu
    by_cases hlt : k < xs.length
    · obtain ⟨b, off, rfl, hc⟩ := HR.out.cell hlt
      obtain ⟨b2, off2, rfl, hc2⟩ := HR2.out.cell hlt
      replace hc := HU.out.kept hc
      replace hc2 := HU.out.kept hc2
      obtain ⟨y, hy⟩ : ∃ y, xs.getD k 0 = y := ⟨_, rfl⟩
      rw [hy] at hc hc2
      have i0 : (0 : Int) ≤ (k : Int) := Int.natCast_nonneg _
      have i1 : (k : Int) < (xs.length : Int) := by omega
      clear hy
      go_upto_region 6 with fail
      go_quiet (fail)
      go_wp2_with fail
      go_roundw
      case rel => exact ⟨k + 1, by omega, by go_num, HU.out.then_drewN nq⟩
      case measure => simp [intOf]; omega
    · have i1 : ¬ (k : Int) < (xs.length : Int) := by omega
      go_wp2_with fail
      go_ret
      exact ⟨rfl, HU.out⟩
end
end Go.Proofs.YtkopplnjomkleaaGreat
