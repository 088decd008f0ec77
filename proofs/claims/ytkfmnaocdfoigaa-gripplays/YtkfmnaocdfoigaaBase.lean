/-
  Worlds that have only grown: what each contract of code that makes memory says. No program is named here.
-/
import Derived.WalkKit
import Derived.WalkSmall
import Derived.ProofKit
import Derived.Lib.Hide
namespace Go.Proofs.Ytkfmnaocdfoigaa.W64
end Go.Proofs.Ytkfmnaocdfoigaa.W64
namespace Go.Proofs.Ytkfmnaocdfoigaa
open Go.RowKit

/-- Of what there was nothing has turned. -/
def Up (w w' : World) : Prop := Below w.heap.size w w'
theorem Up.refl (w : World) : Up w w := Below.refl _ _
theorem Up.trans {a b c : World} (h : Up a b) (k : Up b c) : Up a c := Below.trans h (Below.mono k h.size)
theorem Up.alloc (w : World) (o : Obj) : Up w (w.alloc o) := (Below.refl _ _).alloc (Nat.le_refl _) _
theorem Up.drewN (w : World) (m : Nat) : Up w (w.drewN m) := below_drewN (Below.refl _ _) m
theorem Up.then_alloc {a w : World} (h : Up a w) (o : Obj) : Up a (w.alloc o) := h.trans (Up.alloc _ _)
theorem Up.then_drewN {a w : World} (h : Up a w) (m : Nat) : Up a (w.drewN m) := h.trans (Up.drewN _ _)
theorem Up.then_drew {a w : World} (h : Up a w) : Up a w.drew := h.trans (Up.drewN _ 1)
theorem Up.setCell {a w : World} (h : Up a w) {p : Addr} (hp : a.heap.size ≤ p.block) (u : Value) : Up a (w.setCell p u) := Below.setCell h hp u
theorem Up.le {w w' : World} (h : Up w w') : w.heap.size ≤ w'.heap.size := h.size
theorem Up.cell {w w' : World} (h : Up w w') {b o : Nat} {v : Value} (hb : b < w.heap.size) (hc : w.cell? ⟨b, o, none⟩ = some v) : w'.cell? ⟨b, o, none⟩ = some v :=
  (Below.cell h (p := ⟨b, o, none⟩) hb).trans hc
theorem Up.frozen {w w' : World} (h : Up w w') {b o : Nat} {v : Bool} (hb : b < w.heap.size) (hc : w.frozen? ⟨b, o, none⟩ = v) : w'.frozen? ⟨b, o, none⟩ = v :=
  (Below.frozen h (p := ⟨b, o, none⟩) hb).trans hc
theorem Up.kept {w w' : World} (h : Up w w') {p : Addr} {v : Value} (hc : w.cell? p = some v) : w'.cell? p = some v :=
  (Below.cell h (World.block_lt_of_cell? w _ hc)).trans hc
theorem up_two {a w' : World} {p q : Addr} {x y : Value} (u : Up a w') (hx : a.cell? p = some x) (hy : a.cell? q = some y) : w'.cell? p = some x ∧ w'.cell? q = some y ∧ Up a w' := ⟨u.kept hx, u.kept hy, u⟩
theorem Up.cells {W w1 : World} (hb : Up W w1) : (∀ b o, b < W.heap.size → w1.cell? ⟨b, o, none⟩ = W.cell? ⟨b, o, none⟩) ∧ (∀ b o, b < W.heap.size → w1.frozen? ⟨b, o, none⟩ = W.frozen? ⟨b, o, none⟩) :=
  ⟨fun b o h => Below.cell hb (p := ⟨b, o, none⟩) h, fun b o h => Below.frozen hb (p := ⟨b, o, none⟩) h⟩
theorem cell_new {w : World} {cs : Array Value} {t : TypeId} {fr : Nat × Nat} {n i : Nat} {v : Value} (hn : n = w.heap.size) (h : cs[i]? = some v) : (w.alloc (.cells cs t fr)).cell? ⟨n, i, none⟩ = some v := by
  subst hn; rw [World.cell?_alloc_mark]; exact h
/-- A contract that leaves the world alone, weakened: the world behind it is a letter. -/
theorem up_of_same {P : Program} {f : FuncId} {args : Array Value} {w : World} {v : Value}
    (h : Calls P f args w fun e w' => e = .returned v ∧ w = w') : Calls P f args w fun e w' => e = .returned v ∧ Up w w' :=
  h.mono fun _ _ ⟨he, hw⟩ => ⟨he, hw ▸ Up.refl _⟩

/-- A slice of numbers that came in: nil; or a row of 'cap' cells that hold the numbers 'zs', of which the first 'len' are its elements. -/
def IsRow (k : IntKind) (w : World) (a : Option Addr) (len cap : Nat) (zs : List Int) : Prop :=
  (a = none ∧ len = 0 ∧ cap = 0 ∧ zs = []) ∨
  ∃ x, a = some x ∧ len ≤ cap ∧ cap ≤ maxLen ∧ zs.length = cap ∧ (∀ i, i < zs.length → w.cell? (x.add i) = some (.int k (zs.getD i 0))) ∧ ∀ n ∈ zs, (Lit.int k n).wf = true
theorem row_len {k : IntKind} {w : World} {a : Option Addr} {len cap : Nat} {zs : List Int} (h : IsRow k w a len cap zs) : len ≤ maxLen := by
  rcases h with ⟨_, rfl, _, _⟩ | ⟨x, _, hl, hm, _⟩
  · exact Nat.zero_le _
  · omega
theorem row_cell {kd : IntKind} {w : World} {a : Option Addr} {len cap : Nat} {zs : List Int} (h : IsRow kd w a len cap zs) {k : Nat} (hk : k < len) :
    ∃ b off, a = some ⟨b, off, none⟩ ∧ b < w.heap.size ∧ w.cell? ⟨b, off + k, none⟩ = some (.int kd (zs.getD k 0)) := by
  rcases h with ⟨_, rfl, _, _⟩ | ⟨x, rfl, hl, hm, hz, hc, _⟩
  · omega
  · obtain ⟨b, off, spot⟩ := x
    have h0 := hc 0 (by omega)
    have hs : spot = none := by simpa [Addr.add] using World.cell?_spot h0
    subst hs
    have h1 := hc k (by omega)
    have e : (⟨b, off, none⟩ : Addr).add k = ⟨b, off + k, none⟩ := by
      unfold Addr.add; split
      · subst_vars; rfl
      · rfl
    rw [e] at h1
    exact ⟨b, off, rfl, World.block_lt_of_cell? w _ h1, h1⟩
end Go.Proofs.Ytkfmnaocdfoigaa
