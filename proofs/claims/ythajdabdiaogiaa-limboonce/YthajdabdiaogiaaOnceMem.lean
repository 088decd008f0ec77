/-
  LimboOnce's two rows of 80 numbers in memory; what a round of it leaves.
-/
import Derived.Test.YthajdabdiaogiaaLimboLaws
import Derived.Test.YthajdabdiaogiaaOnceMath
namespace Go.Proofs.Ythajdabdiaogiaa
open Go.RowKit
set_option maxRecDepth 100000

/-- Eighty numbers. -/
def row80 (f : Nat → Int) : Array Value := ((List.range 80).map (fun j => Value.int .i64 (f j))).toArray
theorem row80_get (f : Nat → Int) {j : Nat} (h : j < 80) : (row80 f)[j]? = some (.int .i64 (f j)) := by simp [row80, h]
theorem row80_put (f : Nat → Int) (x : Nat) (v : Int) : (row80 f).setIfInBounds x (.int .i64 v) = row80 (put f x v) := by
  apply Array.ext
  · simp [row80]
  · intro i h1 h2
    simp [row80] at h2
    by_cases e : x = i
    · subst e; simp [row80, put]
    · simp [row80, put, e, Ne.symm e]
theorem run_zero80 (w : World) : (zeroValue 44).run Try.prog w = .ok (.agg (row80 (fun _ => 0))) w := by
  rfl
section
variable {W w w1 w2 w' : World} {q bt bc next out i n : Nat} {F F' : List Nat} {S S' : Lb} {tg cm : Nat → Int} {now : Int} {v o : Value} {xs got : List Int}
/-- The limbo and the two rows, each of its own. -/
structure OnceAt (W w : World) (q bt bc : Nat) (F : List Nat) (S : Lb) (tg cm : Nat → Int) : Prop where
  mine : Mine W w q F S
  rt : Whole w bt 44 (row80 tg)
  rc : Whole w bc 44 (row80 cm)
  ne : bt ≠ bc
  ft : bt ∉ F
  fc : bc ∉ F
  lt : W.heap.size ≤ bt
  lc : W.heap.size ≤ bc
theorem OnceAt.then (h : OnceAt W w q bt bc F S tg cm) (u : Up w w') : OnceAt W w' q bt bc F S tg cm := ⟨h.mine.then u, h.rt.up u, h.rc.up u, h.ne, h.ft, h.fc, h.lt, h.lc⟩
theorem OnceAt.took (h : OnceAt W w q bt bc F S tg cm) (T : Took w w' q F S' xs o) : ∃ F', OnceAt W w' q bt bc F' S' tg cm ∧ Ints w' o xs ∧ Away o [bt, bc] := by
  obtain ⟨F', M, J, A, Fr, N, E⟩ := h.mine.took T
  have t1 := h.rt.lt
  have t2 := h.rc.lt
  refine ⟨F', ⟨M, E.whole h.rt h.ft, E.whole h.rc h.fc, h.ne, fun hb => ?_, fun hb => ?_, h.lt, h.lc⟩, J, ?_⟩
  · rcases N _ hb with h' | h'
    · exact h.ft h'
    · omega
  · rcases N _ hb with h' | h'
    · exact h.fc h'
    · omega
  · obtain ⟨_, _, _, _, _, O, _⟩ := T
    intro b hb e
    simp at hb
    rcases O b e with h' | h'
    · rcases hb with rfl | rfl
      · exact h.ft h'
      · exact h.fc h'
    · rcases hb with rfl | rfl <;> omega
theorem OnceAt.setT (h : OnceAt W w q bt bc F S tg cm) {x : Nat} (a : Int) : OnceAt W (w.setCell ⟨bt, x, none⟩ (.int .i64 a)) q bt bc F S (put tg x a) cm := by
  have u : Else [bt] w (w.setCell ⟨bt, x, none⟩ (.int .i64 a)) := (Else.refl _ _).set (.inl (by simp)) _
  refine ⟨h.mine.else u (fun b hb e => by simp at e; subst e; exact h.ft hb) (fun b hb => by simp at hb; subst hb; exact h.lt), ?_, h.rc.far (p := ⟨bt, x, none⟩) (Ne.symm h.ne) _, h.ne, h.ft, h.fc, h.lt, h.lc⟩
  have := h.rt.set x (.int .i64 a)
  rw [row80_put] at this; exact this
theorem OnceAt.setC (h : OnceAt W w q bt bc F S tg cm) {x : Nat} (a : Int) : OnceAt W (w.setCell ⟨bc, x, none⟩ (.int .i64 a)) q bt bc F S tg (put cm x a) := by
  have u : Else [bc] w (w.setCell ⟨bc, x, none⟩ (.int .i64 a)) := (Else.refl _ _).set (.inl (by simp)) _
  refine ⟨h.mine.else u (fun b hb e => by simp at e; subst e; exact h.fc hb) (fun b hb => by simp at hb; subst hb; exact h.lc), h.rt.far (p := ⟨bc, x, none⟩) h.ne _, ?_, h.ne, h.ft, h.fc, h.lt, h.lc⟩
  have := h.rc.set x (.int .i64 a)
  rw [row80_put] at this; exact this
theorem OnceAt.cells (h : OnceAt W w q bt bc F S tg cm) {x : Nat} (hx : x < 80) : w.cell? ⟨bt, x, none⟩ = some (.int .i64 (tg x)) ∧ w.cell? ⟨bc, x, none⟩ = some (.int .i64 (cm x)) ∧ w.frozen? ⟨bt, x, none⟩ = false ∧ w.frozen? ⟨bc, x, none⟩ = false :=
  ⟨h.rt.cell (row80_get tg hx), h.rc.cell (row80_get cm hx), h.rt.frozen x, h.rc.frozen x⟩
/-- A store into the second row leaves a list that lies elsewhere. -/
theorem ints_setC {x : Nat} {a : Value} (J : Ints w v xs) (A : Away v [bt, bc]) : Ints (w.setCell ⟨bc, x, none⟩ a) v xs :=
  J.else (l := [bc]) ((Else.refl _ _).set (.inl (by simp)) _) (fun b hb => A b (by simp at hb; simp [hb]))
theorem ints_setT {x : Nat} {a : Value} (J : Ints w v xs) (A : Away v [bt, bc]) : Ints (w.setCell ⟨bt, x, none⟩ a) v xs :=
  J.else (l := [bt]) ((Else.refl _ _).set (.inl (by simp)) _) (fun b hb => A b (by simp at hb; simp [hb]))
/-- What holds ahead of each round. -/
structure OnceR (W : World) (q bt bc : Nat) (now : Int) (next out i : Nat) (w : World) (F : List Nat) (S : Lb) (tg cm : Nat → Int) : Prop where
  at_ : OnceAt W w q bt bc F S tg cm
  in_ : In S next tg cm
  hi : ∀ j, next ≤ j → cm j = 0
  last : S.last ≤ now
  now0 : 0 ≤ now
  now1 : now ≤ 2 * i
  ni : next ≤ i
  size : S.size + out = next
def OnceRel (W : World) (q bt bc m : Nat) (a b c d : Value) (w : World) : Prop :=
  ∃ (now : Int) (next out i : Nat) (F : List Nat) (S : Lb) (tg cm : Nat → Int), a = .int .i64 now ∧ b = .int .i64 next ∧ c = .int .i64 out ∧ d = .int .i64 i ∧ i ≤ m ∧ OnceR W q bt bc now next out i w F S tg cm
/-- Behind j of those that came. -/
structure InR (W : World) (q bt bc : Nat) (F : List Nat) (S : Lb) (tg : Nat → Int) (now : Int) (next out : Nat) (got : List Int) (v : Value) (j : Nat) (w : World) (cm : Nat → Int) : Prop where
  at_ : OnceAt W w q bt bc F S tg cm
  gt : Got S (got.drop j) now next tg cm
  hi : ∀ k, next ≤ k → cm k = 0
  ints : Ints w v got
  le : j ≤ got.length
def InRel (W : World) (q bt bc : Nat) (F : List Nat) (S : Lb) (tg : Nat → Int) (now : Int) (next out : Nat) (got : List Int) (v : Value) (a b : Value) (w : World) : Prop :=
  ∃ (j : Nat) (cm : Nat → Int), a = .int .i64 (out + j : Nat) ∧ b = .int .i64 j ∧ InR W q bt bc F S tg now next out got v j w cm
theorem drop_get {xs : List Int} {k : Nat} (h : k < xs.length) : xs.drop k = xs.getD k 0 :: xs.drop (k + 1) := by
  rw [List.drop_eq_getElem_cons h]; simp [List.getD, h]
/-- The next of those that came. -/
theorem InR.look {j : Nat} {x : Int} (h : InR W q bt bc F S tg now next out got v j w cm) (hj : j < got.length) (hx : got.getD j 0 = x) : 0 ≤ x ∧ x < next ∧ tg x.toNat + 2 ≤ now ∧ cm x.toNat = 0 ∧ 0 ≤ tg x.toNat := by
  have := h.gt.came x (by rw [drop_get hj, hx]; simp)
  exact this
theorem InR.step {j : Nat} {x : Nat} (h : InR W q bt bc F S tg now next out got v j w cm) (hj : j < got.length) (hx : got.getD j 0 = (x : Int)) (A : Away v [bt, bc]) : InR W q bt bc F S tg now next out got v (j + 1) (w.setCell ⟨bc, x, none⟩ (.int .i64 1)) (put cm x 1) := by
  obtain ⟨h0, h1, h2, h3, _⟩ := h.look hj hx
  have g := h.gt
  rw [drop_get hj, hx] at g
  have g2 := g.next
  have e : ((x : Int)).toNat = x := by simp
  rw [e] at g2 h3
  rw [h3] at g2
  refine ⟨h.at_.setC 1, g2, fun k hk => ?_, ints_setC h.ints A, by omega⟩
  rw [put_other _ _ (by omega)]; exact h.hi k hk
end
end Go.Proofs.Ythajdabdiaogiaa
