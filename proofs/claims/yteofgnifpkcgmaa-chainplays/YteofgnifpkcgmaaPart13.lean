/-
  Texts beneath ChainPlays, part 13: ChBack.
-/
import Derived.Test.YteofgnifpkcgmaaPart12
/-
  Chunks set one behind the other (ChainBack), from the last one on: the memory behind each Set, the lists, the count, as plain data; the statements' own sets, walks at them.
-/
namespace Go.Proofs.Yteofgnifpkcgmaa
open Go.RowKit
open W64
set_option maxRecDepth 100000
set_option linter.unusedSimpArgs false
/-- Behind j Sets: k - 1 ahead of none, k - 2 ahead of k - 1 .. -/
def backS (n k : Nat) : Nat → St
  | 0 => mem0 n
  | j + 1 => setS (backS n k j) 6 (k - 1 - j) (if j = 0 then -1 else ((k - j : Nat) : Int))
/-- How many accesses, behind the Walks from the first i. -/
def cntB (k : Nat) : Nat → Nat
  | 0 => k
  | i + 1 => cntB k i + (k - i)
section
variable {w w' : World} {q p g qs n k j i m : Nat} {s : St} {v : Value} {xs : List Int}
theorem backS_len (n k : Nat) : ∀ j, (backS n k j).xs.length = 6 + 9 * n
  | 0 => mem0_len n
  | j + 1 => by unfold backS; rw [setS_xs, List.length_set, backS_len n k j]
theorem backS_c (n k : Nat) : ∀ j, j ≤ 1000 → (backS n k j).c = j
  | 0, _ => mem0_c n
  | j + 1, h => by
    unfold backS
    rw [setS_c, backS_c n k j (by omega), wrap64_in (by omega) (by omega)]
    omega
theorem backS_link (hk : k ≤ n) : ∀ j, j ≤ k → ∀ i, k - j ≤ i → i < k → (backS n k j).xs.getD (6 + i) 0 = if i = k - 1 then 0 else ((i : Int) + 2)
  | 0, _, i, h1, h2 => by omega
  | j + 1, hj, i, h1, h2 => by
    unfold backS
    rw [setS_xs, getD_set, backS_len]
    by_cases e : i = k - 1 - j
    · rw [if_pos ⟨by omega, by omega⟩]
      by_cases hj0 : j = 0
      · rw [if_pos hj0, if_pos (by omega)]; decide
      · rw [if_neg hj0, if_neg (by omega)]; omega
    · rw [if_neg (by omega)]
      exact backS_link hk j (by omega) i (by omega) h2
theorem back_walk (hk : k ≤ n) (hx : ∀ i, i < k → xs.getD (6 + i) 0 = if i = k - 1 then 0 else ((i : Int) + 2)) : ∀ (d i f : Nat), k - i = d → i < k → d ≤ f → walkL n 6 xs f (i : Int) = List.range' i d
  | 0, i, f, h, h1, _ => by omega
  | d + 1, i, f, h, h1, h2 => by
    obtain ⟨f, rfl⟩ : ∃ f', f = f' + 1 := ⟨f - 1, by omega⟩
    rw [walkL_nat, hx i h1, List.range'_succ]
    by_cases e : i = k - 1
    · rw [if_pos e, show belowN (n : Int) 0 = -1 by unfold belowN; rw [if_neg (by omega)]; decide, walkL_neg (by decide)]
      have : d = 0 := by omega
      subst this; rfl
    · rw [if_neg e, show belowN (n : Int) ((i : Int) + 2) = ((i + 1 : Nat) : Int) by unfold belowN; rw [if_neg (by omega)]; omega, back_walk hk hx d (i + 1) f (by omega) (by omega) (by omega)]
theorem back_list (hk : k ≤ n) (hi : i < k) : walkL n 6 (backS n k k).xs n (i : Int) = List.range' i (k - i) :=
  back_walk hk (fun i h => backS_link hk k (Nat.le_refl _) i (by omega) h) (k - i) i n rfl hi (by omega)
theorem cntB_le (k : Nat) (hk : k ≤ 10) : ∀ i, i ≤ k → cntB k i ≤ 10 + 10 * i
  | 0, _ => by unfold cntB; omega
  | i + 1, h => by have := cntB_le k hk i (by omega); unfold cntB; omega
theorem cntB_end (h1 : 1 ≤ k) (h10 : k ≤ 10) : cntB k k = k + k * (k + 1) / 2 := by
  have : k = 1 ∨ k = 2 ∨ k = 3 ∨ k = 4 ∨ k = 5 ∨ k = 6 ∨ k = 7 ∨ k = 8 ∨ k = 9 ∨ k = 10 := by omega
  rcases this with rfl | rfl | rfl | rfl | rfl | rfl | rfl | rfl | rfl | rfl <;> rfl
theorem k_small (h1 : 1 ≤ k) (h10 : k ≤ 10) : k * (k + 1) ≤ 110 := by
  have : k = 1 ∨ k = 2 ∨ k = 3 ∨ k = 4 ∨ k = 5 ∨ k = 6 ∨ k = 7 ∨ k = 8 ∨ k = 9 ∨ k = 10 := by omega
  rcases this with rfl | rfl | rfl | rfl | rfl | rfl | rfl | rfl | rfl | rfl <;> decide
theorem back_sets (R : Cha w q p g qs (cfM n) 6 n (backS n k j)) (hk : k ≤ n) (hj : j < k) {x t : Int} (hx : x = ((k - 1 - j : Nat) : Int)) (ht : t = if j = 0 then -1 else ((k - j : Nat) : Int)) :
    Calls Try.prog 13 #[.pointer (some ⟨q, 0, none⟩), .int .i64 x, .int .i64 t] w fun e w' => e = .returned (.bool true) ∧ Cha w' q p g qs (cfM n) 6 n (backS n k (j + 1)) ∧ Else [p, g] w w' := by
  subst hx ht
  exact sets_any (k := k - 1 - j) R (by omega) (by split <;> omega) (by split <;> omega)
theorem back_walks (R : Cha w q p g qs (cfM n) 6 n s) (hk : k ≤ n) (hn : n ≤ 10) (hi : i < k) (hs : s.xs = (backS n k k).xs) (hc : s.c = cntB k i) :
    Calls Try.prog 21 #[.pointer (some ⟨q, 0, none⟩), .int .i64 (i : Int)] w fun e w' => ∃ v s', e = .returned (.tuple #[v, .int .i64 ((k - i : Nat) : Int)]) ∧ Ints w' v (I (List.range' i (k - i))) ∧ Cha w' q p g qs (cfM n) 6 n s' ∧ s'.xs = (backS n k k).xs ∧ s'.c = cntB k (i + 1) ∧ Else [p, g] w w' := by
  have hb := cntB_le k (by omega) i (by omega)
  refine (walks_any R (k := i) (by omega) (by omega) (by rw [hc]; omega) (S := List.range' i (k - i)) (by rw [hs]; exact back_list hk hi) (m := ((k - i : Nat) : Int)) (by simp)).mono ?_
  rintro e w' ⟨v, s', rfl, J, _, C, h1, h2, E⟩
  refine ⟨v, s', rfl, J, C, h1.trans hs, ?_, E⟩
  rw [h2, hc]
  show ((cntB k i : Nat) : Int) + ((k - i : Nat) : Int) = ((cntB k i + (k - i) : Nat) : Int)
  omega
theorem back_lists (R : Cha w q p g qs (cfM n) 6 n s) (hk : k ≤ n) (hi : i < k) (hs : s.xs = (backS n k k).xs) :
    Calls Try.prog 19 #[.pointer (some ⟨q, 0, none⟩), .int .i64 (i : Int)] w fun e w' => ∃ v, e = .returned v ∧ Ints w' v (I (List.range' i (k - i))) ∧ Fresh w v ∧ Up w w' := by
  have H := chList_in R (k := i) (by omega)
  rw [hs, back_list hk hi] at H
  exact H
/-- The Sets, from the last on. -/
def BackRel (W : World) (q p g qs n k : Nat) (i : Value) (wr : World) : Prop := ∃ (j : Nat) (x : Int), j ≤ k ∧ i = .int .i64 x ∧ x = (k : Int) - 1 - j ∧ ChS W wr q p g qs n (backS n k j)
/-- The Walks, from the first on. -/
def GoRel (W : World) (q p g qs n k : Nat) (i : Value) (wr : World) : Prop := ∃ (j : Nat) (s : St), j ≤ k ∧ i = .int .i64 j ∧ s.xs = (backS n k k).xs ∧ s.c = cntB k j ∧ ChS W wr q p g qs n s
/-- What is wanted, so far. -/
def WantRel (w0 : World) (i k : Nat) (v jv : Value) (wr : World) : Prop := ∃ m : Nat, i ≤ m ∧ m ≤ k ∧ jv = .int .i64 m ∧ Ints wr v (I (List.range' i (m - i))) ∧ Fresh w0 v ∧ Up w0 wr
theorem ints_shapeB {L : List Nat} (J : Ints w v (I L)) (h : L.length = m) : ∃ A c, v = .slice A m c := by
  obtain ⟨A, c, rfl⟩ := J.slice
  exact ⟨A, c, by rw [I_len, h]⟩
theorem range_more (h : i ≤ m) : I (List.range' i (m - i)) ++ [(m : Int)] = I (List.range' i (m + 1 - i)) := by
  rw [show m + 1 - i = (m - i) + 1 by omega, List.range'_concat, I_app, Nat.one_mul, show i + (m - i) = m by omega]
end
end Go.Proofs.Yteofgnifpkcgmaa
