/-
  The statements' own first of layer 5; the contracts of Cells with the answer and what is left told by equations.
-/
import Derived.Test.YtngaokhlcdlpfaaCells
namespace Go.Proofs.Ytngaokhlcdlpfaa
open Go.RowKit

theorem new_is {n : Nat} {i : Int} (hi : i = n) (h0 : 1 ≤ n) (h1 : n ≤ 8388608) (w : World) :
    Calls Try.prog 30 #[.int .i64 i] w fun e w' => e = .returned (.tuple #[.pointer (some ⟨w.heap.size + 1, 0, none⟩), .int .i64 0]) ∧ Mem w' (w.heap.size + 1) w.heap.size (St.zero n) ∧ Up w w' := by
  subst hi; exact new_in n h0 h1 w
theorem wrap_small {n : Int} (h0 : 0 ≤ n) (h1 : n < 18446744073709551616) : IntKind.u64.wrap n = n := IntWalk.u64_in n (by omega)

theorem first_s1 : (St.zero 2).hit 4 1 (IntKind.u64.wrap (0 + 5)) true = ⟨[0, 5], 1, 4, 1, 0, 5, true⟩ := by
  rw [wrap_small (by decide) (by decide)]
  unfold St.hit
  rw [IntWalk.wrap64_in _ (by decide)]; rfl
theorem first_s2 : (⟨[0, 5], 1, 4, 1, 0, 5, true⟩ : St).hit 4 1 (IntKind.u64.wrap (5 + 3)) true = ⟨[0, 8], 2, 4, 1, 5, 8, true⟩ := by
  rw [wrap_small (by decide) (by decide)]
  unfold St.hit
  rw [IntWalk.wrap64_in _ (by decide)]; rfl
theorem count_to {w : World} {p g : Nat} {s : St} {x : Int} (m : Mem w p g s) (hx : s.c = x) :
    Calls Try.prog 17 #[.pointer (some ⟨p, 0, none⟩)] w fun e w' => e = .returned (.int .i64 x) ∧ w = w' := by
  subst hx; exact count_any m
theorem len_to {w : World} {p g : Nat} {s : St} {x : Int} (m : Mem w p g s) (hx : (s.xs.length : Int) = x) :
    Calls Try.prog 57 #[.pointer (some ⟨p, 0, none⟩)] w fun e w' => e = .returned (.int .i64 x) ∧ w = w' := by
  subst hx; exact len_any m
theorem peek_to {w : World} {p g : Nat} {s : St} {i x : Int} (m : Mem w p g s) (h : s.has i) (hx : s.get i = x) :
    Calls Try.prog 14 #[.pointer (some ⟨p, 0, none⟩), .int .i64 i] w fun e w' => e = .returned (.int .u64 x) ∧ w = w' := by
  subst hx; exact peek_in m h
theorem load_to {w : World} {p g : Nat} {s s' : St} {i x : Int} (m : Mem w p g s) (h : s.has i) (hx : s.get i = x) (hs : s.hit 1 i x true = s') :
    Calls Try.prog 53 #[.pointer (some ⟨p, 0, none⟩), .int .i64 i] w fun e w' => e = .returned (.tuple #[.int .u64 x, .int .i64 0]) ∧ Mem w' p g s' ∧ Else [p, g] w w' := by
  subst hx hs; exact load_in m h
theorem store_to {w : World} {p g : Nat} {s s' : St} {i v : Int} (m : Mem w p g s) (h : s.has i) (hs : s.hit 2 i v true = s') :
    Calls Try.prog 55 #[.pointer (some ⟨p, 0, none⟩), .int .i64 i, .int .u64 v] w fun e w' => e = .returned (.int .i64 0) ∧ Mem w' p g s' ∧ Else [p, g] w w' := by
  subst hs; exact store_in v m h
theorem one_is : (1 : Int) = ((1 : Nat) : Int) := rfl
theorem five_is : (5 : Int) = ((5 : Nat) : Int) := rfl
theorem zero_c (n : Nat) : (St.zero n).c = 0 := rfl
theorem two_is : (2 : Int) = ((2 : Nat) : Int) := rfl
theorem first_h1 : (St.zero 2).has 1 := by constructor <;> decide
theorem first_h2 : (⟨[0, 5], 1, 4, 1, 0, 5, true⟩ : St).has 1 := by constructor <;> decide
theorem first_g1 : (St.zero 2).get 1 = 0 := rfl
theorem first_g2 : (⟨[0, 5], 1, 4, 1, 0, 5, true⟩ : St).get 1 = 5 := rfl
theorem first_l : (⟨[0, 8], 2, 4, 1, 5, 8, true⟩ : St).last = .agg #[.int .i64 4, .int .i64 1, .int .u64 5, .int .u64 8, .bool true] := rfl
theorem first_c : (⟨[0, 8], 2, 4, 1, 5, 8, true⟩ : St).c = 2 := rfl
theorem first_n : ((⟨[0, 8], 2, 4, 1, 5, 8, true⟩ : St).xs.length : Int) = 2 := rfl
end Go.Proofs.Ytngaokhlcdlpfaa
