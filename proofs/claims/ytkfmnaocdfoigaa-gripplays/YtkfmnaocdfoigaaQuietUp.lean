/-
  A region that draws its order, whose operations only read and whose callees may make memory of their own: one walk in the order of the text, at the class of the worlds in which of W nothing has turned. No program is named here.
-/
import Derived.Test.YtkfmnaocdfoigaaBase
import Derived.BigQuiet
namespace Go.Proofs.Ytkfmnaocdfoigaa
open Go.RowKit

/-- The worlds in which of W nothing has turned. -/
structure UpOf (W : World) where
  w : World
  up : Up W w
instance (W : World) : Nonempty (UpOf W) := ⟨⟨W, Up.refl W⟩⟩
theorem up_drew (w : World) : Up w w.drew := Up.drewN w 1
theorem calls_up {P : Program} {f : FuncId} {args : Array Value} {v : Ending} {W w : World} (u : Up W w) (h : Calls P f args w fun e w' => e = v ∧ Up w w') : Calls P f args w fun e w' => e = v ∧ Up W w' :=
  h.mono fun _ _ ⟨he, hu⟩ => ⟨he, u.trans hu⟩
/-- The beginning. -/
theorem wp_region_up {P : Program} {id : Nat} {Q : Exit → Act → World → Prop} {a : Act} {W w : World} {l : List Oper} (u : Up W w) (hm : P.follows .mixedOrders = true) (hB : Region.lexB .any l.toArray = true)
    (h : wpQuiet P l.toArray (fun w' => ∃ x : UpOf W, w' = x.w) (fun a' => ∀ w', (∃ x : UpOf W, w' = x.w) → Q .normal a' w') l a) : (Code.region id l.toArray true).wp P Q a w :=
  wp_region_quiet (C := fun w' => ∃ x : UpOf W, w' = x.w) hm hB ⟨⟨w.drew, u.trans (up_drew _)⟩, rfl⟩ (by simpa using h)
/-- A region that only reads, its world written out. -/
theorem wp_region_one {P : Program} {id : Nat} {Q : Exit → Act → World → Prop} {a : Act} {w : World} {l : List Oper} (hm : P.follows .mixedOrders = true) (hB : Region.lexB .any l.toArray = true)
    (h : wpQuiet P l.toArray (fun w' => w' = w.drew) (fun a' => ∀ w', w' = w.drew → Q .normal a' w') l a) : (Code.region id l.toArray true).wp P Q a w :=
  wp_region_quiet (C := fun w' => w' = w.drew) hm hB rfl (by simpa using h)
/-- A contract, at the class. -/
theorem up_class {P : Program} {f : FuncId} {args : Array Value} {v : Value} {W : World} {x : UpOf W} (h : Calls P f args x.w fun e w' => e = .returned v ∧ Up x.w w') :
    Calls P f args x.w fun e w' => e = .returned v ∧ ∃ y : UpOf W, w' = y.w :=
  h.mono fun _ w' ⟨he, hu⟩ => ⟨he, ⟨w', x.up.trans hu⟩, rfl⟩
theorem same_class {P : Program} {f : FuncId} {args : Array Value} {v : Value} {W : World} {x : UpOf W} (h : Calls P f args x.w fun e w' => e = .returned v ∧ x.w = w') :
    Calls P f args x.w fun e w' => e = .returned v ∧ ∃ y : UpOf W, w' = y.w :=
  h.mono fun _ _ ⟨he, hu⟩ => ⟨he, x, hu.symm⟩
theorem class_first {P : Program} {f : FuncId} {args : Array Value} {v : Value} {W : World} (h : Calls P f args W fun e w' => e = .returned v ∧ Up W w') :
    Calls P f args W fun e w' => e = .returned v ∧ ∃ y : UpOf W, w' = y.w :=
  h.mono fun _ w' ⟨he, hu⟩ => ⟨he, ⟨w', hu⟩, rfl⟩
theorem cell_class {W : World} {p : Addr} {v : Value} (h : W.cell? p = some v) (x : UpOf W) : x.w.cell? p = some v := x.up.kept h
end Go.Proofs.Ytkfmnaocdfoigaa
