/-
  One stash and a list in hand that is none of its blocks (Hold).
-/
import Derived.Test.YthmaibbminnplaaStashTwo
import Derived.Test.YthmaibbminnplaaLotsIn
namespace Go.Proofs.Ythmaibbminnplaa
open Go.RowKit
set_option maxRecDepth 100000
section
variable {t t' : TypeId} {W w w1 w2 w' : World} {q p n : Nat} {F G F1 : List Nat} {m m' a : Int} {xs ys zs us : List Int} {v v' o : Value}
structure Hold (t : TypeId) (W w : World) (q : Nat) (m : Int) (xs : List Int) (F : List Nat) (v : Value) (zs : List Int) : Prop where
  mine : Mine t W w q m xs F
  ints : Ints w v zs
  away : Away v F
theorem Hold.then (H : Hold t W w q m xs F v zs) (u : Up w w') : Hold t W w' q m xs F v zs := ⟨H.mine.then u, H.ints.up u, H.away⟩
theorem Hold.gave (H : Hold t W w q m xs F v zs) (g : Gave t w w' q F m ys) : ∃ F', Hold t W w' q m ys F' v zs := by
  obtain ⟨F', M, N, E⟩ := H.mine.gave g
  exact ⟨F', M, H.ints.else E H.away, away_next H.away N H.ints⟩
theorem Hold.took (H : Hold t W w q m xs F v zs) (g : Took t w w' q F m ys o us) : ∃ F', Hold t W w' q m ys F' v zs ∧ Rd w' o us := by
  obtain ⟨F', M, R, -, -, N, E⟩ := H.mine.took g
  exact ⟨F', ⟨M, H.ints.else E H.away, away_next H.away N H.ints⟩, R⟩
theorem Pair.mine (D : Pair t t' W w q p m m' xs ys F G) : Mine t W w q m xs F := ⟨D.a, D.up, D.nF⟩
theorem hold_new (M : Mine t W w q m xs F) (J : Ints w' v zs) (Fr : Fresh w v) (u : Up w w') : Hold t W w' q m xs F v zs :=
  ⟨M.then u, J, fun b hb e => by have := M.sta.lt b hb; have := Fr b e; omega⟩
/-- A slice with nothing in it was appended to: it is new. -/
theorem app_new {v5 : Value} {w5 : World} (G5 : w.grownBy w5 (Value.slice none 0 0).ownBlock) (A5 : v5.ownBlock = (Value.slice none 0 0).ownBlock ∨ v5.ownBlock = some w.heap.size) : Up w w5 ∧ Fresh w v5 :=
  ⟨up_app (Up.refl w) G5 (fresh_nil _), fresh_app (fresh_nil w) (Nat.le_refl _) A5⟩
def LotRel (W : World) (q p : Nat) (m : Int) (len : Nat) (n i : Value) (w : World) : Prop :=
  ∃ (j : Nat) (ys : List Int) (F G : List Nat), i = .int .i64 j ∧ j ≤ len ∧ n = .int .i64 (ys.length : Nat) ∧ ys.length ≤ 20 * j ∧ Pair 47 47 W w q p m m ys ys F G
def InRel (W : World) (q p : Nat) (m : Int) (ys xs : List Int) (F : List Nat) (i : Value) (w : World) : Prop :=
  ∃ (j : Nat) (G : List Nat), i = .int .i64 j ∧ j ≤ xs.length ∧ Pair 47 47 W w q p m m (ys ++ xs) (ys ++ xs.take j) F G
theorem in_step {k : Nat} (h : k < xs.length) : (ys ++ xs.take k) ++ [xs.getD k 0] = ys ++ xs.take (k + 1) := by rw [List.append_assoc, take_get h]
end
end Go.Proofs.Ythmaibbminnplaa
