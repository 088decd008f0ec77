/-
  The statement's own once: each of 0 to n less 1 just once.
-/
import Derived.Test.YtalhbebpoohgkaaCuts
namespace Go.Proofs.Ytalhbebpoohgkaa
open Go.RowKit
set_option maxRecDepth 100000
section
variable {w : World} {v : Value}
def OnRel (w : World) (ub n : Nat) (l : List Nat) (i : Value) (wr : World) : Prop := ∃ k : Nat, k ≤ l.length ∧ i = .int .i64 k ∧ Whole wr ub 4 (usedRow n (l.take k).reverse) ∧ Up w wr
theorem rev_take {l : List Nat} {k : Nat} (h : k < l.length) : (l.take (k + 1)).reverse = l.getD k 0 :: (l.take k).reverse := by
  have : l.take (k + 1) = l.take k ++ [l.getD k 0] := by rw [List.take_add_one]; simp [List.getD, h]
  rw [this]; simp
theorem not_taken {l : List Nat} {k : Nat} (h : k < l.length) (nd : l.Nodup) : l.getD k 0 ∉ (l.take k).reverse := by
  intro hin
  have hin : l.getD k 0 ∈ l.take k := by simpa using hin
  have e : l = l.take k ++ l.getD k 0 :: l.drop (k + 1) := by simp [List.getD, h]
  rw [e, List.nodup_append] at nd
  exact nd.2.2 _ hin _ (by simp) rfl
set_option maxHeartbeats 2000000 in
theorem once_yes {l : List Nat} {n : Nat} (R : Rd w v (I l)) (hl : l.length = n) (hn : ∀ x ∈ l, x < n) (nd : l.Nodup) (h4 : n ≤ 400) {k : Int} (hk : k = n) :
    Calls Try.prog 27 #[v, .int .i64 k] w fun e w' => e = .returned (.bool true) ∧ Up w w' := by
  subst hk
  obtain ⟨A, cap, rfl⟩ := R.slice
  rw [I_len, hl]
  have HR := Lib.hid R
  have HN := Lib.hid hn
  have HD := Lib.hid nd
  have HL := Lib.hid hl
  clear R hn nd hl
  have hr := run_bools n (by omega)
  go_enter Try.func27, Try.ntmps27
  go_wp2_with fail
  clear hr
  have HW3 := Lib.hid (Whole.new w 4 (Array.replicate n (.bool false)))
  rw [usedRow_nil] at HW3 ⊢
  go_loopw [6] (fun i wr => OnRel w w.heap.size n l i wr) (fun i _ => n - (intOf i).toNat)
  case atStart => exact ⟨0, Nat.zero_le _, rfl, HW3.out, Up.alloc _ _⟩
  case round =>
    obtain ⟨k, hk, rfl, hw, hu⟩ := hrel
    rw [HL.out] at hk
    have HW := Lib.hid hw
    have HU := Lib.hid hu
    clear hw hu
    have i0 : (0 : Int) ≤ (k : Int) := Int.natCast_nonneg _
    by_cases hlt : k < n
    · have i1 : (k : Int) < (n : Int) := by omega
      have hkl : k < l.length := by rw [HL.out]; exact hlt
      obtain ⟨b, off, rfl, hc⟩ := HR.out.cell (j := k) (by rw [I_len]; exact hkl)
      rw [I_get hkl] at hc
      replace hc := HU.out.kept hc
      have hx := HN.out _ (Stk.getD_mem hkl)
      have HX := Lib.hid (rev_take hkl)
      have hnt := not_taken hkl HD.out
      obtain ⟨x, ex⟩ : ∃ x, l.getD k 0 = x := ⟨_, rfl⟩
      rw [ex] at hc hx HX hnt
      have cu := HW.out.cell (usedRow_get (l.take k).reverse hx)
      rw [decide_eq_false hnt] at cu
      have fu := HW.out.frozen x
      clear ex hnt
      have x0 : (0 : Int) ≤ (x : Int) := Int.natCast_nonneg _
      have x1 : (x : Int) < (n : Int) := by omega
      have x2 : ¬ (x : Int) < 0 := by omega
      have x3 : ¬ (n : Int) ≤ (x : Int) := by omega
      go_wp2_with fail
      go_roundw
      case rel =>
        refine ⟨k + 1, by omega, by go_num, ?_, HU.out.set (Nat.le_refl _) _⟩
        rw [HX.out, ← usedRow_put]; exact HW.out.set x _
      case measure => simp [intOf]; omega
    · have i1 : ¬ (k : Int) < (n : Int) := by omega
      go_wp2_with fail
      go_ret
      exact ⟨rfl, HU.out⟩
end
end Go.Proofs.Ytalhbebpoohgkaa
