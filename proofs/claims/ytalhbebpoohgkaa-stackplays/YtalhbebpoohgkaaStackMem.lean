/-
  A stack's cells as a list of words (the head at 0, the links from 2 on): how a store turns them; the list from the top; the filled stack; each item once. Plain facts: no program is named here.
-/
import Derived.Test.YtalhbebpoohgkaaStackMath
namespace Go.Proofs.Ytalhbebpoohgkaa.Stk

def hdOf (xs : List Int) : Int := xs.getD 0 0
def lkOf (xs : List Int) (i : Nat) : Int := xs.getD (2 + i) 0
theorem hdOf_set_head {xs : List Int} {v : Int} (h : 0 < xs.length) : hdOf (xs.set 0 v) = v := by simp [hdOf, List.getD, h]
theorem lkOf_set_head (xs : List Int) (v : Int) : lkOf (xs.set 0 v) = lkOf xs := by
  funext i
  unfold lkOf List.getD
  rw [List.getElem?_set_ne (by omega)]
theorem hdOf_set_link (xs : List Int) (y : Nat) (v : Int) : hdOf (xs.set (2 + y) v) = hdOf xs := by simp [hdOf, List.getD]
theorem lkOf_set_link {xs : List Int} {y : Nat} {v : Int} (h : 2 + y < xs.length) : lkOf (xs.set (2 + y) v) = upd (lkOf xs) y v := by
  funext i
  unfold lkOf upd
  by_cases e : i = y
  · subst e; simp [List.getD, h]
  · have : 2 + y ≠ 2 + i := by omega
    unfold List.getD
    rw [List.getElem?_set_ne this, if_neg e]

section
variable {n : Nat} {hd : Int} {lk : Nat → Int} {t : Nat} {S : List Nat} {m : Nat → Mach} {has : Nat → List Nat}
/-- The link of the one at place j leads to what stands below. -/
theorem Chain.get : ∀ {S : List Nat} {j : Nat}, Chain lk S → j < S.length → lk (S.getD j 0) = linkOf (S.drop (j + 1))
  | x :: r, 0, h, _ => by simpa using h.1
  | x :: r, j + 1, h, hj => by
    have := Chain.get (S := r) (j := j) h.2 (by simpa using hj)
    simpa using this
theorem linkOf_drop {S : List Nat} {j : Nat} (h : j < S.length) : linkOf (S.drop j) = S.getD j 0 + 1 := by
  rw [List.drop_eq_getElem_cons h]; simp [linkOf, List.getD, h]
theorem linkOf_end {S : List Nat} {j : Nat} (h : S.length ≤ j) : linkOf (S.drop j) = 0 := by rw [List.drop_eq_nil_of_le h]; rfl
theorem linkOf_zero {S : List Nat} (h : linkOf S = 0) : S = [] := by
  cases S with
  | nil => rfl
  | cons x r => simp [linkOf] at h; omega
theorem linkOf_pos {S : List Nat} {x : Nat} (h : linkOf S = x + 1) : ∃ r, S = x :: r := by
  cases S with
  | nil => simp [linkOf] at h; omega
  | cons y r => simp only [linkOf] at h; exact ⟨r, by rw [show y = x by omega]⟩
theorem take_more {S : List Nat} {j : Nat} (h : j < S.length) : S.take j ++ [S.getD j 0] = S.take (j + 1) := by
  rw [List.take_add_one]; simp [List.getD, h]
/-- The items, all of them: each is there just once. -/
theorem GI.once (g : GI n hd lk t S m has) {L : List Nat} (hL : L = S ++ (has 0 ++ puts (m 0)) ++ (has 1 ++ puts (m 1)) ++ (has 2 ++ puts (m 2)) ++ (has 3 ++ puts (m 3))) : L.length = n ∧ (∀ x ∈ L, x < n) ∧ L.Nodup := by
  refine all_once (fun x => ?_)
  have c := g.cnt x
  unfold sum4 at c
  dsimp only at c
  rw [hL]
  simp only [List.count_append]
  omega
theorem GI.len (g : GI n hd lk t S m has) : S.length ≤ n := by
  have h := (g.once rfl).1
  simp only [List.length_append] at h
  omega
theorem GI.nodup (g : GI n hd lk t S m has) : S.Nodup := by
  rw [List.nodup_iff_count]
  intro x
  have c := g.cnt x
  split at c <;> omega
/-- The filled stack. -/
theorem chain_range {lk : Nat → Int} {n : Nat} (h : ∀ i, i < n → lk i = if i + 1 < n then (i : Int) + 2 else 0) : ∀ k a, a + k = n → Chain lk (List.range' a k)
  | 0, _, _ => trivial
  | k + 1, a, e => by
    rw [List.range'_succ]
    refine ⟨?_, chain_range h k (a + 1) (by omega)⟩
    rw [h a (by omega)]
    cases k with
    | zero => rw [if_neg (by omega)]; rfl
    | succ k => rw [if_pos (by omega), List.range'_succ]; simp [linkOf]; omega
theorem GI.fill {n : Nat} {hd : Int} {lk : Nat → Int} (h0 : 0 < n) (h1 : n < 4294967295) (hh : hd = 1) (hl : ∀ i, i < n → lk i = if i + 1 < n then (i : Int) + 2 else 0) :
    GI n hd lk 0 (List.range n) (fun _ => .idle) (fun _ => []) := by
  refine ⟨?_, ?_, h1, fun x hx => ?_, fun x => ?_, fun _ _ => trivial⟩
  · cases n with
    | zero => omega
    | succ n => rw [List.range_eq_range', List.range'_succ]; simp [linkOf, hh]
  · rw [List.range_eq_range']; exact chain_range hl n 0 (by omega)
  · rw [hl x hx]; split <;> omega
  · rw [List.count_range]; simp [sum4, puts_idle]
end
end Go.Proofs.Ytalhbebpoohgkaa.Stk
