/-
  One Advance that goes on step by step, whatever it meets: as plain data (Rn), and its Step.
-/
import Derived.Test.YtngaokhlcdlpfaaEpLaws
namespace Go.Proofs.Ytngaokhlcdlpfaa
open Go.RowKit
open W64
set_option maxRecDepth 100000
/-- The cells, an Advance, how many accesses there were. -/
structure Rn where
  xs : List Int
  a : Ad
  c : Int
def Rn.go (n : Nat) (r : Rn) : Rn := if r.a.fin then r else ⟨r.a.xs 0 n r.xs, r.a.go 0 1 n r.xs, r.c + 1⟩
def Rn.iter (n : Nat) (r : Rn) : Nat → Rn
  | 0 => r
  | k + 1 => (Rn.iter n r k).go n
theorem Rn.go_c (n : Nat) (r : Rn) : r.c ≤ (r.go n).c ∧ (r.go n).c ≤ r.c + 1 := by
  unfold Rn.go
  split
  · omega
  · dsimp only; omega
theorem Rn.iter_c (n : Nat) (r : Rn) (h : r.c = 0) : ∀ k, 0 ≤ (r.iter n k).c ∧ (r.iter n k).c ≤ k
  | 0 => by simp [Rn.iter, h]
  | k + 1 => by
    have h1 := Rn.iter_c n r h k
    have h2 := Rn.go_c n (r.iter n k)
    show 0 ≤ ((r.iter n k).go n).c ∧ ((r.iter n k).go n).c ≤ ((k + 1 : Nat) : Int)
    omega
/-- What a Step that may have come to its end leaves. -/
structure Ran (W w : World) (p g q n b : Nat) (r : Rn) (w' : World) : Prop where
  sit : Sit W w' p g q n r.xs r.c
  mach : AdM w' b q n r.a
  rest : Else [b, p, g] w w'
section
variable {W w w' : World} {p g q n b : Nat} {r : Rn}
theorem adStep_run (S : Sit W w p g q n r.xs r.c) (A : Off b p g q) (hb : W.heap.size ≤ b) (P : AdM w b q n r.a) (c0 : 0 ≤ r.c) (c1 : r.c ≤ 100000) :
    Calls Try.prog 23 #[.pointer (some ⟨b, 0, none⟩)] w fun v w' => ∃ d, v = .returned (.bool d) ∧ Ran W w p g q n b (r.go n) w' := by
  cases h : r.a.fin
  · have e : r.go n = ⟨r.a.xs 0 n r.xs, r.a.go 0 1 n r.xs, r.c + 1⟩ := by unfold Rn.go; rw [h]; rfl
    rw [e]
    refine (adStep_to S A hb P h rfl rfl (wrap64_in (by omega) (by omega))).mono ?_
    rintro v w' ⟨rfl, G⟩
    exact ⟨true, rfl, G.sit, G.mach, G.rest⟩
  · have e : r.go n = r := by unfold Rn.go; rw [h]; rfl
    rw [e]
    refine (adStep_no P h).mono ?_
    rintro v w' ⟨rfl, rfl⟩
    exact ⟨false, rfl, S, P, Else.refl _ _⟩
end
/-! ### EpochBars: five workers, one pinned -/
theorem pinO_zero : pinO 0 = false := by decide
theorem pinO_odd (m : Int) : pinO (2 * m + 1) = true := by unfold pinO; exact decide_eq_true (by omega)
theorem pinE_odd (m : Int) : pinE (2 * m + 1) = m := by unfold pinE; rw [pinO_odd, if_pos rfl]; omega
theorem epN_small {t : Int} (h : t ≤ 4611686018427387903) : epN t = t := by unfold epN; rw [if_pos h]
theorem upN_small {t : Int} (h0 : 0 ≤ t) (h1 : t < 18446744073709551615) : upN t = t + 1 := by unfold upN; exact IntWalk.u64_in _ (by omega)
def barXs (t P : Int) (w : Nat) : List Int := ((List.replicate 6 (0 : Int)).set 0 t).set (1 + w) P
def bar0 (t P : Int) (w : Nat) : Rn := ⟨barXs t P w, ⟨0, 0, false, false⟩, 0⟩
set_option maxHeartbeats 4000000 in
theorem bar_same {t : Int} (t1 : 1 ≤ t) (t2 : t ≤ 1000) {w : Nat} (hw : w < 5) :
    (bar0 t (2 * t + 1) w).iter 5 10 = ⟨(barXs t (2 * t + 1) w).set 0 (t + 1), ⟨7, t, true, true⟩, 7⟩ := by
  have e1 := epN_small (t := t) (by omega)
  have e2 := upN_small (t := t) (by omega) (by omega)
  rcases (show w = 0 ∨ w = 1 ∨ w = 2 ∨ w = 3 ∨ w = 4 by omega) with rfl | rfl | rfl | rfl | rfl <;>
    simp [Rn.iter, Rn.go, Ad.go, Ad.xs, Ad.bar, bar0, barXs, pinO_zero, pinE_odd, e1, e2]
set_option maxHeartbeats 4000000 in
theorem bar_else {t m : Int} (t2 : t ≤ 1000) (hm : m ≠ t) {w : Nat} (hw : w < 5) :
    (bar0 t (2 * m + 1) w).iter 5 10 = ⟨barXs t (2 * m + 1) w, ⟨w + 2, t, false, true⟩, 2 + (w : Int)⟩ := by
  have e1 := epN_small (t := t) (by omega)
  rcases (show w = 0 ∨ w = 1 ∨ w = 2 ∨ w = 3 ∨ w = 4 by omega) with rfl | rfl | rfl | rfl | rfl <;>
    simp [Rn.iter, Rn.go, Ad.go, Ad.xs, Ad.bar, bar0, barXs, pinO_zero, pinO_odd, pinE_odd, e1, hm]
theorem barXs_head (t P : Int) (w : Nat) : (barXs t P w).getD 0 0 = t := by
  unfold barXs
  rw [getD_set, if_neg (by omega)]
  simp [List.getD]
theorem barXs_up (t P u : Int) (w : Nat) : ((barXs t P w).set 0 u).getD 0 0 = u := by
  rw [getD_set, if_pos ⟨rfl, by simp [barXs]⟩]
end Go.Proofs.Ytngaokhlcdlpfaa
