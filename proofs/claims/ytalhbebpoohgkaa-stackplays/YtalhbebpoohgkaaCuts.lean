/-
  s[:c] and s[c:] of ints; a row of bools that tells who is in a list; a head's word cut to its item.
-/
import Derived.Test.YtalhbebpoohgkaaDistinct
namespace Go.Proofs.Ytalhbebpoohgkaa
open Go.RowKit
set_option maxRecDepth 100000
section
variable {w w1 w' : World} {v v2 : Value} {xs ys : List Int}
def cutHi (A : Option Addr) (c cap : Nat) : Value := sliced A 0 c cap 1
def cutLo (A : Option Addr) (c len cap : Nat) : Value := sliced A c len cap 1
theorem elem_ints : Try.prog.elem 22 = 3 := by kernel_rfl
theorem size_int (w : World) : (sizeOf 3).run Try.prog w = .ok 1 w := by
  obtain ⟨i9, hi, hz0, hz1, hz2⟩ := info_parts info_int
  simp [sizeOf, typeInfo, hi, hz1]
theorem run_cutHi (A : Option Addr) (len cap c : Nat) (h : c ≤ cap) (w : World) : (Instr.slice 22 (.slice A len cap) none (some (.int .i64 (c : Int))) none).run Try.prog w = .ok (cutHi A c cap) w := by
  rw [run_slice_h w 22 A len cap (by rw [elem_ints]; exact Try.underlying22) .i64 c (by omega) (by omega), elem_ints, size_int]
  rfl
theorem run_cutLo (A : Option Addr) (len cap c : Nat) (h : c ≤ len) (w : World) : (Instr.slice 22 (.slice A len cap) (some (.int .i64 (c : Int))) none none).run Try.prog w = .ok (cutLo A c len cap) w := by
  rw [run_slice_l w 22 A len cap (by rw [elem_ints]; exact Try.underlying22) .i64 c (by omega) (by omega), elem_ints, size_int]
  rfl
theorem add_at (g off c : Nat) : (⟨g, off, none⟩ : Addr).add c = ⟨g, off + c, none⟩ := by
  unfold Addr.add; split
  · subst_vars; rfl
  · rfl
theorem cutHi_rd {A : Option Addr} {n cap c : Nat} (R : Rd w (.slice A n cap) xs) (h : c ≤ xs.length) : Rd w (cutHi A c cap) (xs.take c) := by
  have hl : (xs.take c).length = c := by simp; omega
  refine ⟨if cap = 0 then A else A.map (·.add (0 * 1)), cap - 0, ?_, ?_, fun j hj => ?_⟩
  · rw [hl]; rfl
  · have := R.len; omega
  · rw [hl] at hj
    obtain ⟨g, off, rfl, hc⟩ := R.cell (j := j) (by omega)
    refine ⟨g, off, ?_, ?_⟩
    · by_cases hz : cap = 0
      · rw [if_pos hz]
      · rw [if_neg hz]; simp [Addr.add]
    · rw [hc]; simp [List.getD, hj]
theorem cutLo_rd {A : Option Addr} {n cap c : Nat} (R : Rd w (.slice A n cap) xs) (h : c ≤ xs.length) (hcap : n ≤ cap) : Rd w (cutLo A c n cap) (xs.drop c) := by
  obtain ⟨A', cap', e, hm, _⟩ := id R
  injection e with e1 e2 e3
  subst e1 e2 e3
  have hl : (xs.drop c).length = xs.length - c := by simp
  refine ⟨if cap = c then A else A.map (·.add (c * 1)), cap - c, ?_, ?_, fun j hj => ?_⟩
  · rw [hl]; rfl
  · rw [hl]; omega
  · rw [hl] at hj
    obtain ⟨g, off, rfl, hc⟩ := R.cell (j := c + j) (by omega)
    refine ⟨g, off + c, ?_, ?_⟩
    · rw [if_neg (by omega), Nat.mul_one, Option.map_some, add_at]
    · rw [Nat.add_assoc, hc]; simp [List.getD]
theorem cutHi_own (A : Option Addr) (c len cap : Nat) : (cutHi A c cap).ownBlock = (Value.slice A len cap).ownBlock := by
  unfold cutHi sliced
  by_cases h : cap = 0
  · rw [if_pos h]; cases A <;> rfl
  · rw [if_neg h]
    cases A with
    | none => rfl
    | some a => simp [Value.ownBlock, Addr.add]
theorem cutLo_own (A : Option Addr) (c len cap : Nat) : (cutLo A c len cap).ownBlock = (Value.slice A len cap).ownBlock := by
  unfold cutLo sliced
  by_cases h : cap = c
  · rw [if_pos h]; cases A <;> rfl
  · rw [if_neg h]
    cases A with
    | none => rfl
    | some a =>
      simp only [Option.map_some, Value.ownBlock, Option.some.injEq]
      unfold Addr.add; split <;> rfl
theorem cutLo_is (A : Option Addr) (c len cap : Nat) : ∃ A', cutLo A c len cap = .slice A' (len - c) (cap - c) := ⟨_, rfl⟩
theorem Ints.cap {A : Option Addr} {n cap : Nat} (h : Ints w (.slice A n cap) xs) : n ≤ cap := by
  rcases h.2 with ⟨e, _⟩ | ⟨g, c, cur, e, _, _, hn, _⟩
  · injection e with e1 e2 e3; omega
  · injection e with e1 e2 e3; omega

/-! ### A row of bools -/
def usedRow (n : Nat) (W : List Nat) : Array Value := ((List.range n).map (fun j => Value.bool (decide (j ∈ W)))).toArray
theorem usedRow_nil (n : Nat) : Array.replicate n (Value.bool false) = usedRow n [] := by
  apply Array.ext
  · simp [usedRow]
  · intro i h1 h2; simp [usedRow]
theorem usedRow_get {n j : Nat} (W : List Nat) (h : j < n) : (usedRow n W)[j]? = some (.bool (decide (j ∈ W))) := by simp [usedRow, h]
theorem usedRow_put (n x : Nat) (W : List Nat) : (usedRow n W).setIfInBounds x (.bool true) = usedRow n (x :: W) := by
  apply Array.ext
  · simp [usedRow]
  · intro i h1 h2
    simp only [usedRow, List.setIfInBounds_toArray, List.getElem_toArray, List.getElem_set]
    split
    · subst_vars; simp
    · rename_i hne
      have : i ≠ x := fun e => hne e.symm
      simp [this]

theorem low32 (t : Nat) (h : t < 4294967296) : bits .and .u64 ((t : Int) * 4294967296) 4294967295 = 0 := by
  have e1 : ((t : Int) * 4294967296) = W64.U (BitVec.ofNat 64 (t * 4294967296)) := by rw [W64.U_ofNat _ (by omega)]; omega
  have e2 : (4294967295 : Int) = W64.U (BitVec.ofNat 64 4294967295) := by rw [W64.U_ofNat _ (by omega)]; rfl
  rw [e1, e2, W64.and_U]
  unfold W64.U
  rw [BitVec.toNat_and, BitVec.toNat_ofNat, BitVec.toNat_ofNat]
  have h3 : 4294967295 % 2 ^ 64 = 2 ^ 32 - 1 := by decide
  rw [h3, Nat.and_two_pow_sub_one_eq_mod]
  omega
end
end Go.Proofs.Ytalhbebpoohgkaa
