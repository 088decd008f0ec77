/-
  Two stashes beside each other, each with blocks of its own (Pair); the numbers 0, 1, .. as a list.
-/
import Derived.Test.YthmaibbminnplaaStashLaws
namespace Go.Proofs.Ythmaibbminnplaa
open Go.RowKit
set_option maxRecDepth 100000
section
variable {t t' : TypeId} {W w w1 w2 w' : World} {q p n : Nat} {F G F1 : List Nat} {m m' a : Int} {xs ys zs xs' ys' : List Int} {v v' o : Value}
/-- The two, all their blocks newer than W, of which nothing has turned. -/
structure Pair (t t' : TypeId) (W w : World) (q p : Nat) (m m' : Int) (xs ys : List Int) (F G : List Nat) : Prop where
  a : Sta t w q F m xs
  b : Sta t' w p G m' ys
  dis : ∀ b, b ∈ F → b ∉ G
  nF : ∀ b, b ∈ F → W.heap.size ≤ b
  nG : ∀ b, b ∈ G → W.heap.size ≤ b
  up : Up W w
theorem Pair.then (D : Pair t t' W w q p m m' xs ys F G) (u : Up w w') : Pair t t' W w' q p m m' xs ys F G := ⟨D.a.up u, D.b.up u, D.dis, D.nF, D.nG, D.up.trans u⟩
theorem Pair.swap (D : Pair t t' W w q p m m' xs ys F G) : Pair t' t W w p q m' m ys xs G F := ⟨D.b, D.a, fun b hb h => D.dis b h hb, D.nG, D.nF, D.up⟩
theorem Pair.gaveA (D : Pair t t' W w q p m m' xs ys F G) (T : Gave t w w' q F m xs') : ∃ F', Pair t t' W w' q p m m' xs' ys F' G ∧ Next w F F' ∧ Else F w w' := by
  obtain ⟨F', L, N, E⟩ := T
  have hs := D.up.size
  refine ⟨F', ⟨L, D.b.else E (fun b hb h => D.dis b h hb), fun b hb h => ?_, fun b hb => ?_, D.nG, Else.up_new D.up E D.nF⟩, N, E⟩
  · rcases N b hb with h' | h'
    · exact D.dis b h' h
    · have := D.b.lt b h; omega
  · rcases N b hb with h' | h'
    · exact D.nF b h'
    · omega
theorem Pair.gaveB (D : Pair t t' W w q p m m' xs ys F G) (T : Gave t' w w' p G m' ys') : ∃ G', Pair t t' W w' q p m m' xs ys' F G' ∧ Next w G G' ∧ Else G w w' := by
  obtain ⟨G', P, r⟩ := D.swap.gaveA T
  exact ⟨G', P.swap, r⟩
theorem Pair.tookA (D : Pair t t' W w q p m m' xs ys F G) (T : Took t w w' q F m xs' o zs) : ∃ F', Pair t t' W w' q p m m' xs' ys F' G ∧ Rd w' o zs ∧ Away o F' ∧ Away o G ∧ Fresh W o ∧ Next w F F' ∧ Else F w w' := by
  obtain ⟨F', L, J, A, N, O, E⟩ := T
  have hs := D.up.size
  obtain ⟨F'', P, -, -⟩ := D.gaveA ⟨F', L, N, E⟩
  refine ⟨F', ⟨L, P.b, fun b hb h => ?_, fun b hb => ?_, D.nG, P.up⟩, J, A, fun b hb e => ?_, fun b hb => ?_, N, E⟩
  · rcases N b hb with h' | h'
    · exact D.dis b h' h
    · have := D.b.lt b h; omega
  · rcases N b hb with h' | h'
    · exact D.nF b h'
    · omega
  · rcases O b e with h' | h'
    · exact D.dis b h' hb
    · have := D.b.lt b hb; omega
  · rcases O b hb with h' | h'
    · exact D.nF b h'
    · omega
theorem Pair.tookB (D : Pair t t' W w q p m m' xs ys F G) (T : Took t' w w' p G m' ys' o zs) : ∃ G', Pair t t' W w' q p m m' xs ys' F G' ∧ Rd w' o zs ∧ Away o G' ∧ Away o F ∧ Fresh W o ∧ Next w G G' ∧ Else G w w' := by
  obtain ⟨G', P, r⟩ := D.swap.tookA T
  exact ⟨G', P.swap, r⟩
theorem pair_new (M : Mine t W w q m xs F) (S : Sta t' w' p G m' ys) (u : Up w w') (hG : ∀ b, b ∈ G → w.heap.size ≤ b) : Pair t t' W w' q p m m' xs ys F G :=
  ⟨M.sta.up u, S, fun b hb h => by have := M.sta.lt b hb; have := hG b h; omega, M.new, fun b hb => Nat.le_trans M.up.size (hG b hb), M.up.trans u⟩
def upto (k : Nat) : List Int := (List.range k).map (fun j : Nat => (j : Int))
theorem upto_succ (k : Nat) : upto k ++ [(k : Int)] = upto (k + 1) := by unfold upto; rw [List.range_succ]; simp
theorem upto_len (k : Nat) : (upto k).length = k := by simp [upto]
theorem upto_get {k j : Nat} (h : j < k) : (upto k).getD j 0 = (j : Int) := by simp [upto, List.getD, h]
end
end Go.Proofs.Ythmaibbminnplaa
