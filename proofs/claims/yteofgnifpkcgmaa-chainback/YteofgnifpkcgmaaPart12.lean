/-
  Texts beneath ChainBack, part 12: ChEnds.
-/
import Derived.Test.YteofgnifpkcgmaaPart11
/-
  Links that go round, links beyond the last chunk, chunks one behind the other: the lists that they make, as plain data; the statements' own sets and walks at them.
-/
namespace Go.Proofs.Yteofgnifpkcgmaa
open Go.RowKit
open W64
set_option maxRecDepth 100000
set_option linter.unusedSimpArgs false
/-- Going along a list: the world does not turn. -/
def StillRel (w4 : World) (n : Nat) (i : Value) (wr : World) : Prop := wr = w4 ∧ ∃ j : Nat, j ≤ n ∧ i = .int .i64 j
section
variable {W w w' : World} {q p g qs n lk a f k m : Nat} {s s' : St} {v : Value} {xs : List Int} {B : Int} {L : List Nat}
theorem ring_walk (ha : a < n) (hl : lk + a < xs.length) : ∀ f, walkL n lk (xs.set (lk + a) ((a : Int) + 1)) f (a : Int) = List.replicate f a
  | 0 => rfl
  | f + 1 => by
    rw [walkL_nat, getD_same hl, show belowN n ((a : Int) + 1) = (a : Int) by unfold belowN; rw [if_neg (by omega)]; omega, ring_walk ha hl f]
    rfl
theorem end_walk (ha : a < n) (hl : lk + a < xs.length) (hB : (n : Int) < B) : walkL n lk (xs.set (lk + a) B) n (a : Int) = [a] := by
  obtain ⟨f, rfl⟩ : ∃ f, n = f + 1 := ⟨n - 1, by omega⟩
  rw [walkL_nat, getD_same hl, show belowN ((f + 1 : Nat) : Int) B = -1 by unfold belowN; rw [if_pos hB], walkL_neg (by decide)]
theorem ints_shape (J : Ints w v (I L)) (h : L.length = m) : ∃ A c, v = .slice A m c := by
  obtain ⟨A, c, rfl⟩ := J.slice
  exact ⟨A, c, by rw [I_len, h]⟩
theorem wrap_one {c : Int} (h0 : 0 ≤ c) (h1 : c ≤ 1000000) : wrap64 (c + 1) = c + 1 := wrap64_in (by omega) (by omega)
/-- The link of a set to a, then to a word beyond. -/
theorem ends_pack (ha : a < n) (h10 : n ≤ 10) (hB : (n : Int) < B) (hB2 : B < 18446744073709551616) : ∃ s1 : St, s1.c = 1 ∧
    (∀ (w : World) (q p g qs : Nat), Cha w q p g qs (cfM n) 6 n (mem0 n) → Calls Try.prog 13 #[.pointer (some ⟨q, 0, none⟩), .int .i64 (a : Int), .int .i64 (a : Int)] w fun e w' => e = .returned (.bool true) ∧ Cha w' q p g qs (cfM n) 6 n s1 ∧ Else [p, g] w w') ∧
    (∀ (w : World) (q p g qs : Nat), Cha w q p g qs (cfM n) 6 n s1 → Calls Try.prog 21 #[.pointer (some ⟨q, 0, none⟩), .int .i64 (a : Int)] w fun e w' => ∃ v s', e = .returned (.tuple #[v, .int .i64 (n : Int)]) ∧ Ints w' v (I (List.replicate n a)) ∧ Fresh w v ∧ Cha w' q p g qs (cfM n) 6 n s' ∧ s'.xs = s1.xs ∧ s'.c = s1.c + n ∧ Else [p, g] w w') ∧
    (∀ (w : World) (q p g qs : Nat) (s : St), s.xs = s1.xs → Cha w q p g qs (cfM n) 6 n s → Calls Try.prog 19 #[.pointer (some ⟨q, 0, none⟩), .int .i64 (a : Int)] w fun e w' => ∃ v, e = .returned v ∧ Ints w' v (I (List.replicate n a)) ∧ Fresh w v ∧ Up w w') ∧
    (∀ (w : World) (q p g qs : Nat) (s : St), s.xs = s1.xs → Cha w q p g qs (cfM n) 6 n s → Calls Try.prog 27 #[.pointer (some ⟨p, 0, none⟩), .int .i64 ((6 + a : Nat) : Int), .int .u64 B] w fun e w' => e = .returned (.int .i64 0) ∧ (∃ s', s'.c = s.c ∧ s'.xs = s1.xs.set (6 + a) B ∧ Cha w' q p g qs (cfM n) 6 n s') ∧ Else [p, g] w w') ∧
    (∀ (w : World) (q p g qs : Nat) (s : St), s.c = s1.c + n → s.xs = s1.xs.set (6 + a) B → Cha w q p g qs (cfM n) 6 n s → Calls Try.prog 21 #[.pointer (some ⟨q, 0, none⟩), .int .i64 (a : Int)] w fun e w' => ∃ v s', e = .returned (.tuple #[v, .int .i64 1]) ∧ Ints w' v [(a : Int)] ∧ Fresh w v ∧ Cha w' q p g qs (cfM n) 6 n s' ∧ s'.xs = s.xs ∧ Else [p, g] w w') ∧
    (∀ (w : World) (q p g qs : Nat) (s : St), s.xs = s1.xs.set (6 + a) B → Cha w q p g qs (cfM n) 6 n s → Calls Try.prog 19 #[.pointer (some ⟨q, 0, none⟩), .int .i64 (a : Int)] w fun e w' => ∃ v, e = .returned v ∧ Ints w' v [(a : Int)] ∧ Fresh w v ∧ Up w w') := by
  have hl : 6 + a < (mem0 n).xs.length := by rw [mem0_len]; omega
  have hx := setS_xs (mem0 n) 6 a (a : Int)
  have hc : (setS (mem0 n) 6 a (a : Int)).c = 1 := by rw [setS_c, mem0_c]; exact wrap_one (by decide) (by decide)
  have hl1 : 6 + a < (setS (mem0 n) 6 a (a : Int)).xs.length := by rw [hx, List.length_set]; exact hl
  have hw : walkL n 6 (setS (mem0 n) 6 a (a : Int)).xs n (a : Int) = List.replicate n a := by rw [hx]; exact ring_walk ha hl n
  have hw2 : walkL n 6 ((setS (mem0 n) 6 a (a : Int)).xs.set (6 + a) B) n (a : Int) = [a] := end_walk ha hl1 hB
  have hI : I [a] = [(a : Int)] := rfl
  obtain ⟨s1, h9⟩ : ∃ s1, setS (mem0 n) 6 a (a : Int) = s1 := ⟨_, rfl⟩
  rw [h9] at hc hl1 hw hw2
  refine ⟨s1, hc, ?_, ?_, ?_, ?_, ?_, ?_⟩
  · intro w q p g qs R
    have H := sets_any (k := a) (bh := (a : Int)) R ha (by omega) (by omega)
    rw [h9] at H
    exact H
  · intro w q p g qs R
    exact walks_any R ha (by omega) (by rw [hc]; decide) hw (by simp)
  · intro w q p g qs s hs R
    have H := chList_in R ha
    rw [hs, hw] at H
    exact H
  · intro w q p g qs s hs R
    have hla : 6 + a < s.xs.length := by rw [hs]; exact hl1
    refine (lay_in B R.env.mem (i := ((6 + a : Nat) : Int)) ⟨by omega, by omega⟩).mono ?_
    rintro e w' ⟨rfl, M, E⟩
    refine ⟨rfl, ⟨s.lay ((6 + a : Nat) : Int) B, rfl, ?_, R.turn M E (by simp [R.qp, R.qg]) (by simp [R.env.np, R.env.ng]) (R.env.ok.lay _ (by omega) hB2) (lay_len _ _ _)⟩, E⟩
    unfold St.lay
    dsimp only
    rw [hs, Int.toNat_natCast]
  · intro w q p g qs s hsc hs R
    have h := walks_any (m := 1) R ha (by omega) (by rw [hsc, hc]; omega) (S := [a]) (by rw [hs]; exact hw2) rfl
    refine h.mono ?_
    rintro e w' ⟨v, s', rfl, J, F, C, h1, _, E⟩
    exact ⟨v, s', rfl, hI ▸ J, F, C, h1, E⟩
  · intro w q p g qs s hs R
    have H := chList_in R ha
    rw [hs, hw2] at H
    exact H
end
end Go.Proofs.Yteofgnifpkcgmaa
