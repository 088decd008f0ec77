/-
  Worlds that differ in some blocks alone: what a contract says of code that writes into objects of its caller's. No program is named here.
-/
import Derived.Test.YtkfmnaocdfoigaaOwn
namespace Go.Proofs.Ytkfmnaocdfoigaa
open Go.RowKit

/-- Of what there was nothing has turned but for the blocks s. -/
structure Else (s : List Nat) (w w' : World) : Prop where
  os : w'.os = w.os
  tape : w'.tape = w.tape
  output : w'.output = w.output
  size : w.heap.size ≤ w'.heap.size
  block : ∀ k, k < w.heap.size → k ∉ s → w'.heap[k]? = w.heap[k]?
theorem Else.refl (s : List Nat) (w : World) : Else s w w := ⟨rfl, rfl, rfl, Nat.le_refl _, fun _ _ _ => rfl⟩
theorem Else.trans {s : List Nat} {a b c : World} (h : Else s a b) (k : Else s b c) : Else s a c :=
  ⟨k.os.trans h.os, k.tape.trans h.tape, k.output.trans h.output, Nat.le_trans h.size k.size, fun i hi hs => (k.block i (Nat.lt_of_lt_of_le hi h.size) hs).trans (h.block i hi hs)⟩
theorem Else.of_up {s : List Nat} {w w' : World} (h : Up w w') : Else s w w' := ⟨h.os, h.tape, h.output, h.size, fun k hk _ => h.block k hk⟩
theorem Else.up_of {w w' : World} (h : Else [] w w') : Up w w' := ⟨h.os, h.tape, h.output, h.size, fun k hk => h.block k hk (by simp)⟩
theorem Else.more {s t : List Nat} {w w' : World} (h : Else s w w') (hst : ∀ k, k ∈ s → k ∈ t) : Else t w w' := ⟨h.os, h.tape, h.output, h.size, fun k hk hs => h.block k hk (fun h' => hs (hst k h'))⟩
theorem Else.alloc {s : List Nat} {a w : World} (h : Else s a w) (o : Obj) : Else s a (w.alloc o) := h.trans (Else.of_up (Up.alloc w o))
theorem Else.drew {s : List Nat} {a w : World} (h : Else s a w) : Else s a w.drew := h.trans (Else.of_up (Up.drewN w 1))
theorem Else.drewN {s : List Nat} {a w : World} (h : Else s a w) (n : Nat) : Else s a (w.drewN n) := h.trans (Else.of_up (Up.drewN w n))
theorem Else.up {s : List Nat} {a w w' : World} (h : Else s a w) (u : Up w w') : Else s a w' := h.trans (Else.of_up u)
/-- A store into one of these blocks, or into one that is new. -/
theorem Else.set {s : List Nat} {a w : World} (h : Else s a w) {p : Addr} (hp : p.block ∈ s ∨ a.heap.size ≤ p.block) (v : Value) : Else s a (w.setCell p v) := by
  have b := Below.setCell (Below.refl p.block w) (Nat.le_refl _) v
  refine ⟨b.os.trans h.os, b.tape.trans h.tape, b.output.trans h.output, Nat.le_trans h.size b.size, fun k hk hs => ?_⟩
  have hne : k ≠ p.block := by
    rcases hp with hp | hp
    · intro e; exact hs (e ▸ hp)
    · omega
  exact (Below.heap_setCell w p v k hne).trans (h.block k hk hs)
/-- New blocks are nobody's: what was done to them alone is nothing to the elder world. -/
theorem Else.up_new {s : List Nat} {a w w' : World} (u : Up a w) (h : Else s w w') (hs : ∀ k, k ∈ s → a.heap.size ≤ k) : Up a w' :=
  ⟨h.os.trans u.os, h.tape.trans u.tape, h.output.trans u.output, Nat.le_trans u.size h.size, fun k hk => (h.block k (Nat.lt_of_lt_of_le hk u.size) (fun h' => by have := hs k h'; omega)).trans (u.block k hk)⟩
theorem Else.heap {s : List Nat} {w w' : World} (h : Else s w w') {g : Nat} {o : Obj} (hg : w.heap[g]? = some o) (hs : g ∉ s) : w'.heap[g]? = some o := (h.block g (some_lt hg) hs).trans hg
theorem Else.whole {s : List Nat} {w w' : World} (h : Else s w w') {g : Nat} {t : TypeId} {cs : Array Value} (hw : Whole w g t cs) (hs : g ∉ s) : Whole w' g t cs := h.heap hw hs
theorem Else.kept {s : List Nat} {w w' : World} (h : Else s w w') {p : Addr} {v : Value} (hc : w.cell? p = some v) (hs : p.block ∉ s) : w'.cell? p = some v :=
  (World.cell?_of_block (w := w) (h.block p.block (World.block_lt_of_cell? w _ hc) hs)).trans hc
/-- A store elsewhere. -/
theorem Whole.far {w : World} {g : Nat} {t : TypeId} {cs : Array Value} (h : Whole w g t cs) {p : Addr} (hp : g ≠ p.block) (v : Value) : Whole (w.setCell p v) g t cs :=
  (Below.heap_setCell w p v g hp).trans h
theorem Whole.alloc {w : World} {g : Nat} {t : TypeId} {cs : Array Value} (h : Whole w g t cs) (o : Obj) : Whole (w.alloc o) g t cs := h.up (Up.alloc w o)
theorem Whole.drewN {w : World} {g : Nat} {t : TypeId} {cs : Array Value} (h : Whole w g t cs) (n : Nat) : Whole (w.drewN n) g t cs := h
end Go.Proofs.Ytkfmnaocdfoigaa
