/-
  Things that are there have cells of their own. No program is named here.
-/
import Derived.Test.YtfimnhajokecbaaLayMath
namespace Go.Proofs.Ytfimnhajokecbaa

/-- The cell of a thing by numbers, as the statement makes it. -/
def cellN (c : Cf) (a b d : Int) : Int :=
  if a % 6 = 0 then pinN c (b % c.wk) else if a % 6 = 1 then rootN c (b % c.sl) else if a % 6 = 2 then slotN c (b % c.sl) else if a % 6 = 3 then linkN c (b % c.ch)
  else if a % 6 = 4 then wordN c (b % c.ch) (d % c.wo) else b % 3
theorem mod_in (b : Int) {n : Int} (h : 0 < n) : 0 ≤ b % n ∧ b % n < n := ⟨Int.emod_nonneg _ (by omega), Int.emod_lt_of_pos _ h⟩
theorem cell_ways (c : Cf) (a b d : Int) : (a % 6 = 0 ∧ cellN c a b d = pinN c (b % c.wk)) ∨ (a % 6 = 1 ∧ cellN c a b d = rootN c (b % c.sl)) ∨ (a % 6 = 2 ∧ cellN c a b d = slotN c (b % c.sl)) ∨
    (a % 6 = 3 ∧ cellN c a b d = linkN c (b % c.ch)) ∨ (a % 6 = 4 ∧ cellN c a b d = wordN c (b % c.ch) (d % c.wo)) ∨ (a % 6 = 5 ∧ cellN c a b d = b % 3) := by
  unfold cellN
  rcases (show a % 6 = 0 ∨ a % 6 = 1 ∨ a % 6 = 2 ∨ a % 6 = 3 ∨ a % 6 = 4 ∨ a % 6 = 5 by omega) with h | h | h | h | h | h <;> rw [h] <;> simp
theorem cellN_in {c : Cf} (hm : mayB c = true) (a b d : Int) : 0 ≤ cellN c a b d ∧ cellN c a b d < lenN c := by
  obtain ⟨w, h, o, s, f, p⟩ := may_small hm
  have l := lenN_is hm
  have fd : fwN c = 3 + c.wk + 2 * c.sl + c.ch := rfl
  rcases cell_ways c a b d with ⟨_, e⟩ | ⟨_, e⟩ | ⟨_, e⟩ | ⟨_, e⟩ | ⟨_, e⟩ | ⟨_, e⟩ <;> rw [e]
  · have m := mod_in b (show 0 < c.wk by omega)
    unfold pinN; rw [atN_is hm m.1 m.2]; omega
  · have m := mod_in b (show 0 < c.sl by omega)
    unfold rootN; rw [atN_is hm m.1 m.2]; omega
  · have m := mod_in b (show 0 < c.sl by omega)
    unfold slotN; rw [atN_is hm m.1 m.2]; omega
  · have m := mod_in b (show 0 < c.ch by omega)
    unfold linkN; rw [atN_is hm m.1 m.2]; omega
  · have m := mod_in b (show 0 < c.ch by omega)
    have n := mod_in d (show 0 < c.wo by omega)
    rw [wordN_is hm m.1 m.2 n.1 n.2]
    have r := row_in m.1 m.2 n.1 n.2
    omega
  · omega
theorem what_pos {c : Cf} {x : Int} (h0 : 0 ≤ x) (h1 : x < lenN c) : 0 < (whatT c x).1 := by
  rcases what_ways c x with ⟨q0, _⟩ | ⟨q0, q1, _⟩ | ⟨_, _, _, A⟩
  · omega
  · omega
  rcases A with ⟨x0, E⟩ | ⟨_, E⟩ | ⟨x0, x1, E⟩ | ⟨x0, x1, E⟩ | ⟨x0, x1, E⟩ | ⟨x0, x1, E⟩ | ⟨x0, E⟩ <;> rw [E] <;> simp
/-- The cell of a thing that What has told. -/
def backN (c : Cf) (t : Int × Int × Int) : Int :=
  if t.1 = 1 then t.2.1 else if t.1 = 2 then 2 else if t.1 = 3 then pinN c t.2.1 else if t.1 = 4 then rootN c t.2.1 else if t.1 = 5 then slotN c t.2.1 else if t.1 = 6 then linkN c t.2.1 else wordN c t.2.1 t.2.2
theorem back_what {c : Cf} {x : Int} (h0 : 0 ≤ x) (h1 : x < lenN c) : backN c (whatT c x) = x := by
  rcases what_ways c x with ⟨q0, _⟩ | ⟨q0, q1, _⟩ | ⟨_, _, hm, A⟩
  · omega
  · omega
  rcases A with ⟨x0, E⟩ | ⟨x0, E⟩ | ⟨x0, x1, E⟩ | ⟨x0, x1, E⟩ | ⟨x0, x1, E⟩ | ⟨x0, x1, E⟩ | ⟨x0, E⟩ <;> rw [E] <;> unfold backN <;> simp
  · exact x0.symm
  · exact pin_back hm x0 x1
  · exact root_back hm x0 x1
  · exact slot_back hm x0 x1
  · exact link_back hm x0 x1
  · exact word_back hm x0 h1
theorem what_inj {c : Cf} {x y : Int} (h0 : 0 ≤ x) (h1 : x < lenN c) (k0 : 0 ≤ y) (k1 : y < lenN c) (e : whatT c x = whatT c y) : x = y := by
  rw [← back_what h0 h1, ← back_what k0 k1, e]
end Go.Proofs.Ytfimnhajokecbaa
