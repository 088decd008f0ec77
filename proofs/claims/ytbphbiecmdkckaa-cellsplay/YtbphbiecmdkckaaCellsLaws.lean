/-
  The statements' own first of layer 5; the contracts of Cells with the answer and what is left told by equations.
-/
import Derived.Test.YtbphbiecmdkckaaCells
namespace Go.Proofs.Ytbphbiecmdkckaa
open Go.RowKit

theorem new_is {n : Nat} {i : Int} (hi : i = n) (h0 : 1 ≤ n) (h1 : n ≤ 8388608) (w : World) :
    Calls Try.prog 10 #[.int .i64 i] w fun e w' => e = .returned (.tuple #[.pointer (some ⟨w.heap.size + 1, 0, none⟩), .int .i64 0]) ∧ Mem w' (w.heap.size + 1) w.heap.size (St.zero n) ∧ Up w w' := by
  subst hi; exact new_in n h0 h1 w
theorem add_to {w : World} {p g : Nat} {s s' : St} {i v x : Int} (m : Mem w p g s) (h : s.has i) (hx : s.get i = x) (hs : s.hit 4 i (IntKind.u64.wrap (x + v)) true = s') :
    Calls Try.prog 20 #[.pointer (some ⟨p, 0, none⟩), .int .i64 i, .int .u64 v] w fun e w' => e = .returned (.tuple #[.int .u64 x, .int .i64 0]) ∧ Mem w' p g s' ∧ Else [p, g] w w' := by
  subst hx hs; exact add_in v m h
theorem wrap_small {n : Int} (h0 : 0 ≤ n) (h1 : n < 18446744073709551616) : IntKind.u64.wrap n = n := IntWalk.u64_in n (by omega)

theorem first_s1 : (St.zero 2).hit 4 1 (IntKind.u64.wrap (0 + 5)) true = ⟨[0, 5], 1, 4, 1, 0, 5, true⟩ := by
  rw [wrap_small (by decide) (by decide)]
  unfold St.hit
  rw [IntWalk.wrap64_in _ (by decide)]; rfl
theorem first_s2 : (⟨[0, 5], 1, 4, 1, 0, 5, true⟩ : St).hit 4 1 (IntKind.u64.wrap (5 + 3)) true = ⟨[0, 8], 2, 4, 1, 5, 8, true⟩ := by
  rw [wrap_small (by decide) (by decide)]
  unfold St.hit
  rw [IntWalk.wrap64_in _ (by decide)]; rfl
theorem last_to {w : World} {p g : Nat} {s : St} {v : Value} (m : Mem w p g s) (hv : s.last = v) :
    Calls Try.prog 12 #[.pointer (some ⟨p, 0, none⟩)] w fun e w' => e = .returned v ∧ Up w w' := by
  subst hv; exact last_any m
theorem count_to {w : World} {p g : Nat} {s : St} {x : Int} (m : Mem w p g s) (hx : s.c = x) :
    Calls Try.prog 24 #[.pointer (some ⟨p, 0, none⟩)] w fun e w' => e = .returned (.int .i64 x) ∧ w = w' := by
  subst hx; exact count_any m
theorem len_to {w : World} {p g : Nat} {s : St} {x : Int} (m : Mem w p g s) (hx : (s.xs.length : Int) = x) :
    Calls Try.prog 11 #[.pointer (some ⟨p, 0, none⟩)] w fun e w' => e = .returned (.int .i64 x) ∧ w = w' := by
  subst hx; exact len_any m
theorem peek_to {w : World} {p g : Nat} {s : St} {i x : Int} (m : Mem w p g s) (h : s.has i) (hx : s.get i = x) :
    Calls Try.prog 22 #[.pointer (some ⟨p, 0, none⟩), .int .i64 i] w fun e w' => e = .returned (.int .u64 x) ∧ w = w' := by
  subst hx; exact peek_in m h
theorem load_to {w : World} {p g : Nat} {s s' : St} {i x : Int} (m : Mem w p g s) (h : s.has i) (hx : s.get i = x) (hs : s.hit 1 i x true = s') :
    Calls Try.prog 14 #[.pointer (some ⟨p, 0, none⟩), .int .i64 i] w fun e w' => e = .returned (.tuple #[.int .u64 x, .int .i64 0]) ∧ Mem w' p g s' ∧ Else [p, g] w w' := by
  subst hx hs; exact load_in m h
theorem store_to {w : World} {p g : Nat} {s s' : St} {i v : Int} (m : Mem w p g s) (h : s.has i) (hs : s.hit 2 i v true = s') :
    Calls Try.prog 16 #[.pointer (some ⟨p, 0, none⟩), .int .i64 i, .int .u64 v] w fun e w' => e = .returned (.int .i64 0) ∧ Mem w' p g s' ∧ Else [p, g] w w' := by
  subst hs; exact store_in v m h
theorem one_is : (1 : Int) = ((1 : Nat) : Int) := rfl
theorem five_is : (5 : Int) = ((5 : Nat) : Int) := rfl
theorem zero_c (n : Nat) : (St.zero n).c = 0 := rfl
theorem two_is : (2 : Int) = ((2 : Nat) : Int) := rfl
theorem first_h1 : (St.zero 2).has 1 := by constructor <;> decide
theorem first_h2 : (⟨[0, 5], 1, 4, 1, 0, 5, true⟩ : St).has 1 := by constructor <;> decide
theorem first_g1 : (St.zero 2).get 1 = 0 := rfl
theorem first_g2 : (⟨[0, 5], 1, 4, 1, 0, 5, true⟩ : St).get 1 = 5 := rfl
theorem first_l : (⟨[0, 8], 2, 4, 1, 5, 8, true⟩ : St).last = .agg #[.int .i64 4, .int .i64 1, .int .u64 5, .int .u64 8, .bool true] := rfl
theorem first_c : (⟨[0, 8], 2, 4, 1, 5, 8, true⟩ : St).c = 2 := rfl
theorem first_n : ((⟨[0, 8], 2, 4, 1, 5, 8, true⟩ : St).xs.length : Int) = 2 := rfl
set_option maxHeartbeats 2000000 in
theorem first_any (w : World) : Calls Try.prog 8 #[] w fun e w' => e = .returned (.bool true) ∧ Up w w' := by
  go_enter Try.func8, Try.ntmps8
  go_wp2_with (first
    | (go_at_call 10; (with_reducible refine (new_is two_is (by decide) (by decide) _).mono ?_); rintro e w1 ⟨rfl, M1, U1⟩; replace M1 := Lib.hid M1)
    | (go_at_call 20; (with_reducible refine (add_to M1.out first_h1 first_g1 first_s1).mono ?_); rintro e w2 ⟨rfl, M2, E2⟩; replace M2 := Lib.hid M2)
    | (go_at_call 20; (with_reducible refine (add_to M2.out first_h2 first_g2 first_s2).mono ?_); rintro e w3 ⟨rfl, M3, E3⟩; replace M3 := Lib.hid M3)
    | (go_at_call 12; (with_reducible refine (last_to M3.out first_l).mono ?_); rintro e w4 ⟨rfl, U4⟩)
    | (go_at_call 24; (with_reducible refine (count_to (M3.out.up (U4.then_alloc _)) first_c).mono ?_); rintro e w5 ⟨rfl, rfl⟩)
    | (go_at_call 11; (with_reducible refine (len_to (M3.out.up (U4.then_alloc _)) first_n).mono ?_); rintro e w5 ⟨rfl, rfl⟩))
  go_ret
  exact ⟨rfl, (Else.up_new U1 (E2.trans E3) (by simp)).trans (U4.then_alloc _)⟩
end Go.Proofs.Ytbphbiecmdkckaa
