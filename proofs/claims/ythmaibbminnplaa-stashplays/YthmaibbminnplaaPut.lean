/-
  A function turned at one place. No program is named here.
-/
import Derived.WalkKit
namespace Go.Proofs.Ythmaibbminnplaa
def put {α : Type} (f : Nat → α) (k : Nat) (x : α) : Nat → α := fun j => if j = k then x else f j
@[simp] theorem put_same {α : Type} (f : Nat → α) (k : Nat) (x : α) : put f k x k = x := by simp [put]
theorem put_other {α : Type} (f : Nat → α) {j k : Nat} (x : α) (h : j ≠ k) : put f k x j = f j := by simp [put, h]
theorem put_put {α : Type} (f : Nat → α) (k : Nat) (a b : α) : put (put f k a) k b = put f k b := by funext j; unfold put; split <;> rfl
theorem three {P : Nat → Prop} (h0 : P 0) (h1 : P 1) (h2 : P 2) : ∀ k, k < 3 → P k := by
  intro k hk
  have : k = 0 ∨ k = 1 ∨ k = 2 := by omega
  rcases this with rfl | rfl | rfl <;> assumption
end Go.Proofs.Ythmaibbminnplaa
