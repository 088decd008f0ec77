/-
  Chapter 4 in plain numbers: configurations, which cell is what. No program is named here.
-/
import Derived.WalkKit
import Derived.ProofKit
namespace Go.Proofs.Ytfimnhajokecbaa

/-- A configuration: workers, chunks, words, slots, cache, batch. -/
structure Cf where
  wk : Int
  ch : Int
  wo : Int
  sl : Int
  ca : Int
  ba : Int

/-- It may be. -/
def Cf.May (c : Cf) : Prop := (1 ≤ c.wk ∧ c.wk ≤ 64) ∧ (1 ≤ c.ch ∧ c.ch ≤ 4096) ∧ (8 ≤ c.wo ∧ c.wo ≤ 1024 ∧ c.wo % 8 = 0) ∧ (1 ≤ c.sl ∧ c.sl ≤ 4096) ∧ (0 ≤ c.ca ∧ c.ca ≤ 64) ∧ (1 ≤ c.ba ∧ c.ba ≤ 8)
instance (c : Cf) : Decidable c.May := by unfold Cf.May; infer_instance
def mayB (c : Cf) : Bool := decide c.May
theorem mayB_iff {c : Cf} : mayB c = true ↔ c.May := by simp [mayB]
theorem mayB_not {c : Cf} : mayB c = false ↔ ¬ c.May := by simp [mayB]

theorem dec_no {p : Prop} [Decidable p] (h : ¬ p) : decide p = false := by simp [h]
theorem dec_yes {p : Prop} [Decidable p] (h : p) : decide p = true := by simp [h]
/-- The ways in which it may be or not, test by test. -/
theorem may_ways (c : Cf) :
    (decide (1 ≤ c.wk ∧ c.wk ≤ 64) = false ∧ mayB c = false) ∨
    (decide (1 ≤ c.wk ∧ c.wk ≤ 64) = true ∧ decide (1 ≤ c.ch ∧ c.ch ≤ 4096) = false ∧ mayB c = false) ∨
    (decide (1 ≤ c.wk ∧ c.wk ≤ 64) = true ∧ decide (1 ≤ c.ch ∧ c.ch ≤ 4096) = true ∧ decide (8 ≤ c.wo ∧ c.wo ≤ 1024) = false ∧ mayB c = false) ∨
    (decide (1 ≤ c.wk ∧ c.wk ≤ 64) = true ∧ decide (1 ≤ c.ch ∧ c.ch ≤ 4096) = true ∧ decide (8 ≤ c.wo ∧ c.wo ≤ 1024) = true ∧ 8 ≤ c.wo ∧ c.wo ≤ 1024 ∧ ¬ c.wo % 8 = 0 ∧ mayB c = false) ∨
    (decide (1 ≤ c.wk ∧ c.wk ≤ 64) = true ∧ decide (1 ≤ c.ch ∧ c.ch ≤ 4096) = true ∧ decide (8 ≤ c.wo ∧ c.wo ≤ 1024) = true ∧ 8 ≤ c.wo ∧ c.wo ≤ 1024 ∧ c.wo % 8 = 0 ∧ decide (1 ≤ c.sl ∧ c.sl ≤ 4096) = false ∧ mayB c = false) ∨
    (decide (1 ≤ c.wk ∧ c.wk ≤ 64) = true ∧ decide (1 ≤ c.ch ∧ c.ch ≤ 4096) = true ∧ decide (8 ≤ c.wo ∧ c.wo ≤ 1024) = true ∧ 8 ≤ c.wo ∧ c.wo ≤ 1024 ∧ c.wo % 8 = 0 ∧ decide (1 ≤ c.sl ∧ c.sl ≤ 4096) = true ∧ decide (0 ≤ c.ca ∧ c.ca ≤ 64) = false ∧ mayB c = false) ∨
    (decide (1 ≤ c.wk ∧ c.wk ≤ 64) = true ∧ decide (1 ≤ c.ch ∧ c.ch ≤ 4096) = true ∧ decide (8 ≤ c.wo ∧ c.wo ≤ 1024) = true ∧ 8 ≤ c.wo ∧ c.wo ≤ 1024 ∧ c.wo % 8 = 0 ∧ decide (1 ≤ c.sl ∧ c.sl ≤ 4096) = true ∧ decide (0 ≤ c.ca ∧ c.ca ≤ 64) = true ∧ decide (1 ≤ c.ba ∧ c.ba ≤ 8) = mayB c) := by
  by_cases q1 : 1 ≤ c.wk ∧ c.wk ≤ 64
  · by_cases q2 : 1 ≤ c.ch ∧ c.ch ≤ 4096
    · by_cases q3 : 8 ≤ c.wo ∧ c.wo ≤ 1024
      · by_cases q4 : c.wo % 8 = 0
        · by_cases q5 : 1 ≤ c.sl ∧ c.sl ≤ 4096
          · by_cases q6 : 0 ≤ c.ca ∧ c.ca ≤ 64
            · refine .inr (.inr (.inr (.inr (.inr (.inr ⟨dec_yes q1, dec_yes q2, dec_yes q3, q3.1, q3.2, q4, dec_yes q5, dec_yes q6, ?_⟩)))))
              by_cases q7 : 1 ≤ c.ba ∧ c.ba ≤ 8
              · rw [dec_yes q7]; exact (mayB_iff.2 ⟨q1, q2, ⟨q3.1, q3.2, q4⟩, q5, q6, q7⟩).symm
              · rw [dec_no q7]; exact (mayB_not.2 fun m => q7 m.2.2.2.2.2).symm
            · exact .inr (.inr (.inr (.inr (.inr (.inl ⟨dec_yes q1, dec_yes q2, dec_yes q3, q3.1, q3.2, q4, dec_yes q5, dec_no q6, mayB_not.2 fun m => q6 m.2.2.2.2.1⟩)))))
          · exact .inr (.inr (.inr (.inr (.inl ⟨dec_yes q1, dec_yes q2, dec_yes q3, q3.1, q3.2, q4, dec_no q5, mayB_not.2 fun m => q5 m.2.2.2.1⟩))))
        · exact .inr (.inr (.inr (.inl ⟨dec_yes q1, dec_yes q2, dec_yes q3, q3.1, q3.2, q4, mayB_not.2 fun m => q4 m.2.2.1.2.2⟩)))
      · exact .inr (.inr (.inl ⟨dec_yes q1, dec_yes q2, dec_no q3, mayB_not.2 fun m => q3 ⟨m.2.2.1.1, m.2.2.1.2.1⟩⟩))
    · exact .inr (.inl ⟨dec_yes q1, dec_no q2, mayB_not.2 fun m => q2 m.2.1⟩)
  · exact .inl ⟨dec_no q1, mayB_not.2 fun m => q1 m.1⟩

/-- Where the words begin. -/
def fwN (c : Cf) : Int := 3 + c.wk + 2 * c.sl + c.ch
def lenN (c : Cf) : Int := if mayB c = true then fwN c + c.ch * c.wo else 0
def atN (c : Cf) (first many i : Int) : Int := if mayB c = true ∧ 0 ≤ i ∧ i < many then first + i else -1
def pinN (c : Cf) (i : Int) : Int := atN c 3 c.wk i
def rootN (c : Cf) (i : Int) : Int := atN c (3 + c.wk) c.sl i
def slotN (c : Cf) (i : Int) : Int := atN c (3 + c.wk + c.sl) c.sl i
def linkN (c : Cf) (i : Int) : Int := atN c (3 + c.wk + 2 * c.sl) c.ch i
def wordN (c : Cf) (k i : Int) : Int := if mayB c = true ∧ (0 ≤ k ∧ k < c.ch) ∧ 0 ≤ i ∧ i < c.wo then fwN c + k * c.wo + i else -1
/-- What a cell is. -/
def whatT (c : Cf) (x : Int) : Int × Int × Int :=
  if x < 0 ∨ lenN c ≤ x then (0, 0, 0) else if x < 2 then (1, x, 0) else if x = 2 then (2, 0, 0)
  else if x < 3 + c.wk then (3, x - 3, 0) else if x < 3 + c.wk + c.sl then (4, x - (3 + c.wk), 0)
  else if x < 3 + c.wk + 2 * c.sl then (5, x - (3 + c.wk + c.sl), 0) else if x < fwN c then (6, x - (3 + c.wk + 2 * c.sl), 0)
  else (7, (x - fwN c) / c.wo, (x - fwN c) % c.wo)

theorem lenN_no {c : Cf} (h : mayB c = false) : lenN c = 0 := by unfold lenN; rw [h]; rfl
theorem lenN_is {c : Cf} (h : mayB c = true) : lenN c = fwN c + c.ch * c.wo := by unfold lenN; rw [h]; rfl
theorem atN_no {c : Cf} {f m i : Int} (h : mayB c = false ∨ ¬ (0 ≤ i ∧ i < m)) : atN c f m i = -1 := by
  unfold atN
  rcases h with h | h
  · rw [h]; rfl
  · rw [if_neg (fun h1 => h h1.2)]
theorem atN_is {c : Cf} {f m i : Int} (h : mayB c = true) (h0 : 0 ≤ i) (h1 : i < m) : atN c f m i = f + i := by
  unfold atN; rw [if_pos ⟨h, h0, h1⟩]
theorem wordN_no {c : Cf} {k i : Int} (h : mayB c = false ∨ ¬ (0 ≤ k ∧ k < c.ch) ∨ ¬ (0 ≤ i ∧ i < c.wo)) : wordN c k i = -1 := by
  unfold wordN
  rcases h with h | h | h
  · rw [h]; rfl
  · rw [if_neg (fun h1 => h h1.2.1)]
  · rw [if_neg (fun h1 => h h1.2.2)]
theorem wordN_is {c : Cf} {k i : Int} (h : mayB c = true) (h0 : 0 ≤ k) (h1 : k < c.ch) (h2 : 0 ≤ i) (h3 : i < c.wo) : wordN c k i = fwN c + k * c.wo + i := by
  unfold wordN; rw [if_pos ⟨h, ⟨h0, h1⟩, h2, h3⟩]
/-- A product of two numbers that are small. -/
theorem mul_in {a b A B : Int} (a0 : 0 ≤ a) (a1 : a ≤ A) (b0 : 0 ≤ b) (b1 : b ≤ B) : 0 ≤ a * b ∧ a * b ≤ A * B :=
  ⟨Int.mul_nonneg a0 b0, Int.mul_le_mul a1 b1 b0 (by omega)⟩
/-- The rows of words: row k ends where the next one begins. -/
theorem row_in {a n b i : Int} (a0 : 0 ≤ a) (a1 : a < n) (b0 : 0 ≤ i) (b1 : i < b) : 0 ≤ a * b + i ∧ a * b + i < n * b := by
  have h1 := Int.mul_nonneg a0 (show 0 ≤ b by omega)
  have h2 := Int.mul_le_mul_of_nonneg_right (show a + 1 ≤ n by omega) (show 0 ≤ b by omega)
  rw [Int.add_mul] at h2
  omega

theorem len_may {c : Cf} {x : Int} (h0 : 0 ≤ x) (h1 : x < lenN c) : mayB c = true := by
  cases hm : mayB c
  · rw [lenN_no hm] at h1; omega
  · rfl
/-- The ways in which a cell may be something. -/
theorem what_ways (c : Cf) (x : Int) :
    (x < 0 ∧ whatT c x = (0, 0, 0)) ∨ (0 ≤ x ∧ lenN c ≤ x ∧ whatT c x = (0, 0, 0)) ∨
    (0 ≤ x ∧ x < lenN c ∧ mayB c = true ∧ ((x < 2 ∧ whatT c x = (1, x, 0)) ∨ (x = 2 ∧ whatT c x = (2, 0, 0)) ∨
      (3 ≤ x ∧ x < 3 + c.wk ∧ whatT c x = (3, x - 3, 0)) ∨ (3 + c.wk ≤ x ∧ x < 3 + c.wk + c.sl ∧ whatT c x = (4, x - (3 + c.wk), 0)) ∨
      (3 + c.wk + c.sl ≤ x ∧ x < 3 + c.wk + 2 * c.sl ∧ whatT c x = (5, x - (3 + c.wk + c.sl), 0)) ∨
      (3 + c.wk + 2 * c.sl ≤ x ∧ x < fwN c ∧ whatT c x = (6, x - (3 + c.wk + 2 * c.sl), 0)) ∨
      (fwN c ≤ x ∧ whatT c x = (7, (x - fwN c) / c.wo, (x - fwN c) % c.wo)))) := by
  unfold whatT
  by_cases q0 : x < 0
  · exact .inl ⟨q0, if_pos (.inl q0)⟩
  by_cases q1 : lenN c ≤ x
  · exact .inr (.inl ⟨by omega, q1, if_pos (.inr q1)⟩)
  have hm := len_may (c := c) (x := x) (by omega) (by omega)
  refine .inr (.inr ⟨by omega, by omega, hm, ?_⟩)
  rw [if_neg (by omega)]
  by_cases q2 : x < 2
  · exact .inl ⟨q2, if_pos q2⟩
  rw [if_neg q2]
  by_cases q3 : x = 2
  · exact .inr (.inl ⟨q3, if_pos q3⟩)
  rw [if_neg q3]
  by_cases q4 : x < 3 + c.wk
  · exact .inr (.inr (.inl ⟨by omega, q4, if_pos q4⟩))
  rw [if_neg q4]
  by_cases q5 : x < 3 + c.wk + c.sl
  · exact .inr (.inr (.inr (.inl ⟨by omega, q5, if_pos q5⟩)))
  rw [if_neg q5]
  by_cases q6 : x < 3 + c.wk + 2 * c.sl
  · exact .inr (.inr (.inr (.inr (.inl ⟨by omega, q6, if_pos q6⟩))))
  rw [if_neg q6]
  by_cases q7 : x < fwN c
  · exact .inr (.inr (.inr (.inr (.inr (.inl ⟨by omega, q7, if_pos q7⟩)))))
  rw [if_neg q7]
  exact .inr (.inr (.inr (.inr (.inr (.inr ⟨by omega, rfl⟩)))))
theorem word_ways (c : Cf) (k i : Int) :
    (mayB c = false ∧ wordN c k i = -1) ∨ (mayB c = true ∧ ¬ (0 ≤ k ∧ k ≤ c.ch - 1) ∧ wordN c k i = -1) ∨ (mayB c = true ∧ (0 ≤ k ∧ k ≤ c.ch - 1) ∧ ¬ (0 ≤ i ∧ i ≤ c.wo - 1) ∧ wordN c k i = -1) ∨
    (mayB c = true ∧ (0 ≤ k ∧ k ≤ c.ch - 1) ∧ (0 ≤ i ∧ i ≤ c.wo - 1) ∧ wordN c k i = fwN c + k * c.wo + i) := by
  cases hm : mayB c
  · exact .inl ⟨rfl, wordN_no (.inl hm)⟩
  by_cases q1 : 0 ≤ k ∧ k ≤ c.ch - 1
  · by_cases q2 : 0 ≤ i ∧ i ≤ c.wo - 1
    · exact .inr (.inr (.inr ⟨rfl, q1, q2, wordN_is hm q1.1 (by omega) q2.1 (by omega)⟩))
    · exact .inr (.inr (.inl ⟨rfl, q1, q2, wordN_no (.inr (.inr (by omega)))⟩))
  · exact .inr (.inl ⟨rfl, q1, wordN_no (.inr (.inl (by omega)))⟩)
/-- A configuration that may be: its numbers, and those that are reckoned from them, are small. -/
theorem may_small {c : Cf} (hm : mayB c = true) : (1 ≤ c.wk ∧ c.wk ≤ 64) ∧ (1 ≤ c.ch ∧ c.ch ≤ 4096) ∧ (8 ≤ c.wo ∧ c.wo ≤ 1024) ∧ (1 ≤ c.sl ∧ c.sl ≤ 4096) ∧ (7 ≤ fwN c ∧ fwN c ≤ 20000) ∧ (8 ≤ c.ch * c.wo ∧ c.ch * c.wo ≤ 4194304) := by
  obtain ⟨p1, p2, ⟨p3, p4, _⟩, p5, _⟩ := mayB_iff.1 hm
  have h := Int.mul_le_mul p2.2 p4 (by omega) (by omega)
  have h2 := Int.mul_le_mul p2.1 p3 (by omega) (by omega)
  refine ⟨p1, p2, ⟨p3, p4⟩, p5, ?_, by omega⟩
  unfold fwN; omega
theorem lenN_small {c : Cf} (hm : mayB c = true) : 15 ≤ lenN c ∧ lenN c ≤ 5000000 := by
  obtain ⟨_, _, _, _, _, _⟩ := may_small hm
  rw [lenN_is hm]; omega

theorem pin_back {c : Cf} {x : Int} (hm : mayB c = true) (h0 : 3 ≤ x) (h1 : x < 3 + c.wk) : pinN c (x - 3) = x := by
  unfold pinN; rw [atN_is hm (by omega) (by omega)]; omega
theorem root_back {c : Cf} {x : Int} (hm : mayB c = true) (h0 : 3 + c.wk ≤ x) (h1 : x < 3 + c.wk + c.sl) : rootN c (x - (3 + c.wk)) = x := by
  unfold rootN; rw [atN_is hm (by omega) (by omega)]; omega
theorem slot_back {c : Cf} {x : Int} (hm : mayB c = true) (h0 : 3 + c.wk + c.sl ≤ x) (h1 : x < 3 + c.wk + 2 * c.sl) : slotN c (x - (3 + c.wk + c.sl)) = x := by
  unfold slotN; rw [atN_is hm (by omega) (by omega)]; omega
theorem link_back {c : Cf} {x : Int} (hm : mayB c = true) (h0 : 3 + c.wk + 2 * c.sl ≤ x) (h1 : x < fwN c) : linkN c (x - (3 + c.wk + 2 * c.sl)) = x := by
  unfold fwN at h1
  unfold linkN; rw [atN_is hm (by omega) (by omega)]; omega
/-- Of a word of the rows: which row, where in it. -/
theorem row_of {y n b : Int} (b0 : 0 < b) (y0 : 0 ≤ y) (y1 : y < n * b) : (0 ≤ y / b ∧ y / b < n) ∧ (0 ≤ y % b ∧ y % b < b) ∧ y / b * b + y % b = y :=
  ⟨⟨Int.ediv_nonneg y0 (by omega), Int.ediv_lt_of_lt_mul b0 y1⟩, ⟨Int.emod_nonneg _ (by omega), Int.emod_lt_of_pos _ b0⟩, Int.ediv_mul_add_emod y b⟩
theorem word_back {c : Cf} {x : Int} (hm : mayB c = true) (h0 : fwN c ≤ x) (h1 : x < lenN c) : wordN c ((x - fwN c) / c.wo) ((x - fwN c) % c.wo) = x := by
  obtain ⟨_, _, ⟨w0, _⟩, _⟩ := may_small hm
  rw [lenN_is hm] at h1
  obtain ⟨⟨a0, a1⟩, ⟨b0, b1⟩, e⟩ := row_of (y := x - fwN c) (n := c.ch) (b := c.wo) (by omega) (by omega) (by omega)
  rw [wordN_is hm a0 a1 b0 b1, Int.add_assoc, e]; omega
end Go.Proofs.Ytfimnhajokecbaa
