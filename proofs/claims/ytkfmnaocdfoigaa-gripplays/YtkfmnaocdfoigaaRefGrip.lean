/-
  The reference's grip: the contracts of Holds and Hold.
-/
import Derived.Test.YtkfmnaocdfoigaaGripLaws
namespace Go.Proofs.Ytkfmnaocdfoigaa
open Go.RowKit
set_option maxRecDepth 100000
section
variable {t e : TypeId} {w w1 w2 w' : World} {q n : Nat} {F F1 l : List Nat} {d d' : Nat} {L M : List (Int × Int)} {k : Int × Int} {v v' o : Value}
set_option maxHeartbeats 2000000 in
theorem rgholds_any (E : Gri 29 48 w q F d L) (k0 k1 : Int) : Calls Try.prog 19 #[.pointer (some ⟨q, 0, none⟩), .int .i64 k0, .int .i64 k1] w fun e w' => e = .returned (.bool (decide ((k0, k1) ∈ L))) ∧ w = w' := by
  obtain ⟨u, E⟩ := E
  obtain ⟨A, cap, rfl⟩ := E.prs.slice
  obtain ⟨c0, c1⟩ := E.cells
  have HP := Lib.hid E.prs
  have hl := E.lle
  obtain ⟨n, hn⟩ : ∃ n, L.length = n := ⟨_, rfl⟩
  have HN := Lib.hid hn
  rw [hn] at hl c1 HP
  clear E hn c0
  go_enter Try.func19, Try.ntmps19
  go_wp2_with fail
  go_loopw [7] (fun i wr => ∃ j : Nat, j ≤ n ∧ i = .int .i64 j ∧ w = wr ∧ (k0, k1) ∉ L.take j) (fun i _ => n - (intOf i).toNat)
  case atStart => exact ⟨0, Nat.zero_le _, rfl, rfl, by simp⟩
  case round =>
    obtain ⟨j, hj, rfl, rfl, hno⟩ := hrel
    have HNO := Lib.hid hno
    clear hno
    have i0 : (0 : Int) ≤ (j : Int) := Int.natCast_nonneg _
    by_cases hlt : j < n
    · obtain ⟨g, rfl, x0c, x1c⟩ := HP.out.cells (k := j) (by rw [HN.out]; exact hlt)
      have HTK := Lib.hid (take_getK (L := L) (j := j) (by rw [HN.out]; exact hlt))
      have HME := Lib.hid (show L.getD j (0, 0) ∈ L by have := HN.out; simp [List.getD, show j < L.length by omega])
      obtain ⟨⟨x0, x1⟩, hx⟩ : ∃ x, L.getD j (0, 0) = x := ⟨_, rfl⟩
      rw [hx] at x0c x1c HTK HME
      clear hx
      have i1 : (j : Int) < (n : Int) := by omega
      by_cases h0 : x0 = k0
      · subst h0
        by_cases h1 : x1 = k1
        · subst h1
          have HD := Lib.hid (show decide ((x0, x1) ∈ L) = true by simp [HME.out])
          go_wp2_with fail
          go_ret
          rw [HD.out]
          exact ⟨rfl, rfl⟩
        · have n1 : (x1 == k1) = false := by simp [h1]
          have HNE := Lib.hid h1
          clear h1
          go_wp2_with fail
          go_roundw
          case rel => exact ⟨j + 1, by omega, by go_num, trivial, by rw [HTK.out]; simp [HNO.out]; intro h; exact HNE.out h.symm⟩
          case measure => simp [intOf]; omega
      · have n1 : (x0 == k0) = false := by simp [h0]
        have HNE := Lib.hid h0
        clear h0
        go_wp2_with fail
        go_roundw
        case rel => exact ⟨j + 1, by omega, by go_num, trivial, by rw [HTK.out]; simp [HNO.out]; intro h; exact absurd h.symm HNE.out⟩
        case measure => simp [intOf]; omega
    · have i1 : ¬ (j : Int) < (n : Int) := by omega
      have HAL := Lib.hid (show L.take j = L by apply List.take_of_length_le; rw [HN.out]; omega)
      have HD := Lib.hid (show decide ((k0, k1) ∈ L) = false by have := HNO.out; rw [HAL.out] at this; simp [this])
      go_wp2_with fail
      go_ret
      rw [HD.out]
      exact ⟨rfl, rfl⟩
set_option maxHeartbeats 4000000 in
theorem rghold_any (E : Gri 29 48 w q F d L) (k0 k1 : Int) : Calls Try.prog 15 #[.pointer (some ⟨q, 0, none⟩), .int .i64 k0, .int .i64 k1] w fun e w' => e = .returned (.int .i64 (holdE d L (k0, k1))) ∧ Turn 29 48 w w' q F d (holdL d L (k0, k1)) := by
  have HG := Lib.hid E
  obtain ⟨u, E⟩ := E
  obtain ⟨c0, c1⟩ := E.cells
  by_cases h0 : d = 0
  · subst h0
    have HE := Lib.hid E.same
    clear E
    go_enter Try.func15, Try.ntmps15
    go_wp2_with fail
    go_ret
    exact ⟨rfl, HE.out⟩
  have n0 : ((d : Int) == 0) = false := by simp; omega
  by_cases hk : (k0, k1) ∈ L
  · have HE := Lib.hid E
    have HA := Lib.hid (show holdE d L (k0, k1) = 0 by simp [holdE, h0, hk])
    have HB := Lib.hid (show holdL d L (k0, k1) = L by simp [holdL, h0, hk])
    have HD := Lib.hid (show decide ((k0, k1) ∈ L) = true by simp [hk])
    clear E hk h0
    go_enter Try.func15, Try.ntmps15
    go_wp2_with (go_at_call 19; refine (rgholds_any HG.out k0 k1).mono ?_; rintro e w1 ⟨rfl, rfl⟩; rw [HD.out])
    go_ret
    rw [HA.out, HB.out]
    exact ⟨rfl, HE.out.same⟩
  obtain ⟨A, N, c, rfl⟩ := shapeP E.prs
  have HN := Lib.hid (show L.length = N by obtain ⟨A', c', e⟩ := E.prs.slice; injection e with _ e2 _; exact e2.symm)
  have HE := Lib.hid E
  have HD := Lib.hid (show decide ((k0, k1) ∈ L) = false by simp [hk])
  by_cases h8 : L.length = 8
  · have HA := Lib.hid (show holdE d L (k0, k1) = 8 by simp [holdE, h0, hk, h8])
    have HB := Lib.hid (show holdL d L (k0, k1) = L by simp [holdL, h0, hk, h8])
    obtain rfl : N = 8 := by rw [← HN.out]; exact h8
    clear E hk h0 h8
    go_enter Try.func15, Try.ntmps15
    go_wp2_with (go_at_call 19; refine (rgholds_any HG.out k0 k1).mono ?_; rintro e w1 ⟨rfl, rfl⟩; rw [HD.out])
    go_ret
    rw [HA.out, HB.out]
    exact ⟨rfl, HE.out.same⟩
  · have HA := Lib.hid (show holdE d L (k0, k1) = 0 by simp [holdE, h0, hk, h8])
    have HB := Lib.hid (show holdL d L (k0, k1) = L ++ [(k0, k1)] by simp [holdL, h0, hk, h8])
    have n8 : ((N : Int) == 8) = false := by have := HN.out; simp; omega
    have HL := Lib.hid (show (L ++ [(k0, k1)]).length ≤ 8 by have := E.lle; simp; omega)
    have HL1 := Lib.hid (show ([] : List (Int × Int)).length + L.length ≤ 8192 by have := E.lle; simp; omega)
    have HL2 := Lib.hid (show ([] ++ L).length + [(k0, k1)].length ≤ 8192 by have := E.lle; simp; omega)
    clear E hk h0 h8
    go_enter Try.func15, Try.ntmps15
    go_wp2_with (first
      | (go_at_call 19; refine (rgholds_any HG.out k0 k1).mono ?_; rintro e w1 ⟨rfl, rfl⟩; rw [HD.out])
      | (at_builtin; refine wpList_appP (v := .slice none 0 0) pair_key rfl _ _ rfl rfl rfl (Prs.nil _ _) HE.out.prs HL1.out ?_; intro v5 w5 J5 G5 A5; obtain ⟨B5, M5, k5, rfl⟩ := shapeP J5; have HJ5 := Lib.hid J5; have HU5 := Lib.hid (up_app (Up.refl _) G5 (fresh_nil _)); have HF5 := Lib.hid (fresh_app (fresh_nil _) (Nat.le_refl _) A5); have c5 := HU5.out.kept c1; clear J5 G5 A5)
      | (at_builtin; refine wpList_appP (v := .slice B5 M5 k5) pair_key rfl _ _ rfl rfl rfl (HJ5.out.up (Up.alloc _ _)) (prs_one _ _ k0 k1) HL2.out ?_; intro v6 w6 J6 G6 A6; obtain ⟨B6, M6, k6, rfl⟩ := shapeP J6; have HJ6 := Lib.hid J6; have HU6 := Lib.hid (up_app (HU5.out.then_alloc (.cells #[.int .i64 k0, .int .i64 k1] 48)) G6 HF5.out); have HF6 := Lib.hid (fresh_app HF5.out (HU5.out.then_alloc (.cells #[.int .i64 k0, .int .i64 k1] 48)).size A6); have c6 := HU6.out.kept c1; have f6 := (HE.out.top.up HU6.out).frozen 1; clear J6 G6 A6))
    go_ret
    rw [HA.out, HB.out]
    exact ⟨rfl, HE.out.renew HU6.out (by simpa using HJ6.out) HL.out HF6.out⟩
end
end Go.Proofs.Ytkfmnaocdfoigaa
