/-
  Package limbo: the contracts of Open, empty, Bucket, Len.
-/
import Derived.Test.YthajdabdiaogiaaLimbo2
namespace Go.Proofs.Ythajdabdiaogiaa
open Go.RowKit
set_option maxRecDepth 100000
section
variable {w w' : World} {q : Nat} {F : List Nat} {S : Lb} {V : Nat → Value} {v : Value}
def Lb.isOpen (S : Lb) (now : Int) : Bool := (S.opn now).isSome
theorem opn_of_none {S : Lb} {now : Int} (h : S.old = none) : S.opn now = none := by unfold Lb.opn; rw [h]
theorem opn_of_yes {S : Lb} {now : Int} {k : Nat} (h : S.old = some k) (h1 : S.T k + 2 ≤ now) : S.opn now = some k := by unfold Lb.opn; rw [h]; dsimp only; rw [if_pos h1]
theorem opn_of_no {S : Lb} {now : Int} {k : Nat} (h : S.old = some k) (h1 : ¬ S.T k + 2 ≤ now) : S.opn now = none := by unfold Lb.opn; rw [h]; dsimp only; rw [if_neg h1]
theorem oldest_to (E : Lim w q F S) {r : Option Nat} (h : S.old = r) : Calls Try.prog 22 #[.pointer (some ⟨q, 0, none⟩)] w fun e w' => e = .returned (bptr q r) ∧ Up w w' := h ▸ oldest_any E
/-- A bucket's two cells. -/
theorem LimV.at_ (E : LimV w q F S V) {k : Nat} (hk : k < 3) : w.cell? ⟨q, 2 * k, none⟩ = some (.int .i64 (S.T k)) ∧ w.cell? ⟨q, 2 * k + 1, none⟩ = some (V k) := by
  obtain ⟨c0, c1, c2, c3, c4, c5, c6⟩ := E.cells
  have : k = 0 ∨ k = 1 ∨ k = 2 := by omega
  rcases this with rfl | rfl | rfl
  · exact ⟨c0, c1⟩
  · exact ⟨c2, c3⟩
  · exact ⟨c4, c5⟩
set_option maxHeartbeats 1000000 in
theorem open_any (E : Lim w q F S) (now : Int) : Calls Try.prog 10 #[.pointer (some ⟨q, 0, none⟩), .int .i64 now] w fun e w' => e = .returned (.bool (S.isOpen now)) ∧ Up w w' := by
  have HE := Lib.hid E
  rcases h : S.old with _ | k
  · have e : S.isOpen now = false := by unfold Lb.isOpen; rw [opn_of_none h]; rfl
    rw [e]
    have HO := Lib.hid h
    clear h e E
    go_enter Try.func10, Try.ntmps10
    go_wp2_with (go_at_call 22; refine (oldest_to HE.out HO.out).mono ?_; rintro e w1 ⟨rfl, U1⟩; rw [bptr_none])
    go_ret
    exact ⟨rfl, U1⟩
  · have hk := (Lb.oldTo_lt h).1
    obtain ⟨V, EV⟩ := E
    have l0 := EV.ok.lo k hk
    have l1 := EV.ok.hi k hk
    have l2 := EV.ok.top
    have c := Lib.hid (EV.at_ hk).1
    have a1 : wrap64 (S.T k + 2) = S.T k + 2 := wrap64_in (by omega) (by omega)
    have HO := Lib.hid h
    by_cases ht : S.T k + 2 ≤ now
    · have e : S.isOpen now = true := by unfold Lb.isOpen; rw [opn_of_yes h ht]; rfl
      rw [e]
      clear h e EV
      go_enter Try.func10, Try.ntmps10
      go_wp2_with (go_at_call 22; refine (oldest_to HE.out HO.out).mono ?_; rintro e w1 ⟨rfl, U1⟩; have c1 := U1.kept c.out; unfold bptr)
      go_ret
      exact ⟨rfl, U1⟩
    · have e : S.isOpen now = false := by unfold Lb.isOpen; rw [opn_of_no h ht]; rfl
      rw [e]
      clear h e EV
      go_enter Try.func10, Try.ntmps10
      go_wp2_with (go_at_call 22; refine (oldest_to HE.out HO.out).mono ?_; rintro e w1 ⟨rfl, U1⟩; have c1 := U1.kept c.out; unfold bptr)
      go_ret
      exact ⟨ret_bool (by first | rfl | (apply decide_eq_false; omega)), U1⟩
end
end Go.Proofs.Ythajdabdiaogiaa
