/-
  s[:c], s[c:], s[:c:c] of ints. (Layers without a stack; the stack's texts have the first two in Cuts.)
-/
import Derived.Test.YthmaibbminnplaaIntMore
namespace Go.Proofs.Ythmaibbminnplaa
open Go.RowKit
set_option maxRecDepth 100000
section
variable {w w1 w' : World} {v v2 : Value} {xs ys : List Int}
def cutLo (A : Option Addr) (c len cap : Nat) : Value := sliced A c len cap 1
theorem elem_ints : Try.prog.elem 28 = 3 := by kernel_rfl
theorem size_int (w : World) : (sizeOf 3).run Try.prog w = .ok 1 w := by
  obtain ⟨i9, hi, hz0, hz1, hz2⟩ := info_parts info_int
  simp [sizeOf, typeInfo, hi, hz1]
theorem sliced_zero (A : Option Addr) (c m : Nat) : sliced A 0 c m 1 = .slice A c m := by
  unfold sliced
  cases A <;> simp [Addr.add]
theorem run_cutHi (A : Option Addr) (len cap c : Nat) (h : c ≤ cap) (w : World) : (Instr.slice 28 (.slice A len cap) none (some (.int .i64 (c : Int))) none).run Try.prog w = .ok (.slice A c cap) w := by
  rw [run_slice_h w 28 A len cap (by rw [elem_ints]; exact Try.underlying28) .i64 c (by omega) (by omega), elem_ints, size_int, ← sliced_zero A c cap]
  rfl
theorem run_cutHiM (A : Option Addr) (len cap c : Nat) (h : c ≤ cap) (w : World) : (Instr.slice 28 (.slice A len cap) none (some (.int .i64 (c : Int))) (some (.int .i64 (c : Int)))).run Try.prog w = .ok (.slice A c c) w := by
  rw [run_slice_hm w 28 A len cap (by rw [elem_ints]; exact Try.underlying28) .i64 .i64 c c (by omega) (by omega) (by omega), elem_ints, size_int, ← sliced_zero A c c]
  rfl
theorem run_cutLo (A : Option Addr) (len cap c : Nat) (h : c ≤ len) (w : World) : (Instr.slice 28 (.slice A len cap) (some (.int .i64 (c : Int))) none none).run Try.prog w = .ok (cutLo A c len cap) w := by
  rw [run_slice_l w 28 A len cap (by rw [elem_ints]; exact Try.underlying28) .i64 c (by omega) (by omega), elem_ints, size_int]
  rfl
theorem add_at (g off c : Nat) : (⟨g, off, none⟩ : Addr).add c = ⟨g, off + c, none⟩ := by
  unfold Addr.add; split
  · subst_vars; rfl
  · rfl
theorem cutHi_rd {A : Option Addr} {n cap c cap2 : Nat} (R : Rd w (.slice A n cap) xs) (h : c ≤ xs.length) : Rd w (.slice A c cap2) (xs.take c) := by
  have hl : (xs.take c).length = c := by simp; omega
  refine ⟨A, cap2, ?_, ?_, fun j hj => ?_⟩
  · rw [hl]
  · have := R.len; omega
  · rw [hl] at hj
    obtain ⟨g, off, rfl, hc⟩ := R.cell (j := j) (by omega)
    refine ⟨g, off, rfl, ?_⟩
    rw [hc]; simp [List.getD, hj]
theorem cutHi_ints {A : Option Addr} {n cap c : Nat} (J : Ints w (.slice A n cap) xs) (h : c ≤ xs.length) : Ints w (.slice A c cap) (xs.take c) := by
  have hl : (xs.take c).length = c := by simp; omega
  have hmap : (xs.take c).map (Value.int .i64) = (xs.map (Value.int .i64)).take c := by simp
  refine ⟨by simp, ?_⟩
  rcases J.2 with ⟨e, h0⟩ | ⟨g, cp, cur, e, hb, hh, hn, hm, hs, ht⟩
  · injection e with e1 e2 e3
    subst e1 e3
    left
    have : c = 0 := by omega
    subst this
    exact ⟨rfl, hl⟩
  · injection e with e1 e2 e3
    subst e1 e3
    right
    refine ⟨g, cap, cur, by rw [hl], hb, hh, by rw [hl]; omega, hm, hs, ?_⟩
    rw [hl, hmap, ← ht, List.take_take]
    congr 1
    omega
theorem cutLo_rd {A : Option Addr} {n cap c : Nat} (R : Rd w (.slice A n cap) xs) (h : c ≤ xs.length) (hcap : n ≤ cap) : Rd w (cutLo A c n cap) (xs.drop c) := by
  obtain ⟨A', cap', e, hm, _⟩ := id R
  injection e with e1 e2 e3
  subst e1 e2 e3
  have hl : (xs.drop c).length = xs.length - c := by simp
  refine ⟨if cap = c then A else A.map (·.add (c * 1)), cap - c, ?_, ?_, fun j hj => ?_⟩
  · rw [hl]; rfl
  · rw [hl]; omega
  · rw [hl] at hj
    obtain ⟨g, off, rfl, hc⟩ := R.cell (j := c + j) (by omega)
    refine ⟨g, off + c, ?_, ?_⟩
    · rw [if_neg (by omega), Nat.mul_one, Option.map_some, add_at]
    · rw [Nat.add_assoc, hc]; simp [List.getD]
theorem cutHi_own (A : Option Addr) (c c2 len cap : Nat) : (Value.slice A c c2).ownBlock = (Value.slice A len cap).ownBlock := by cases A <;> rfl
theorem cutLo_own (A : Option Addr) (c len cap : Nat) : (cutLo A c len cap).ownBlock = (Value.slice A len cap).ownBlock := by
  unfold cutLo sliced
  by_cases h : cap = c
  · rw [if_pos h]; cases A <;> rfl
  · rw [if_neg h]
    cases A with
    | none => rfl
    | some a =>
      simp only [Option.map_some, Value.ownBlock, Option.some.injEq]
      unfold Addr.add; split <;> rfl
theorem cutLo_is (A : Option Addr) (c len cap : Nat) : ∃ A', cutLo A c len cap = .slice A' (len - c) (cap - c) := ⟨_, rfl⟩
theorem Ints.cap {A : Option Addr} {n cap : Nat} (h : Ints w (.slice A n cap) xs) : n ≤ cap := by
  rcases h.2 with ⟨e, _⟩ | ⟨g, c, cur, e, _, _, hn, _⟩
  · injection e with e1 e2 e3; omega
  · injection e with e1 e2 e3; omega
end
end Go.Proofs.Ythmaibbminnplaa
