/-
  slices.Index, slices.Contains at a list of pairs; the contracts of Holds and Hold, of the program's grip and the reference's.
-/
import Derived.Test.YtkfmnaocdfoigaaGripPin
import Derived.Laws.StructEq
namespace Go.Proofs.Ytkfmnaocdfoigaa
open Go.RowKit
set_option maxRecDepth 100000
section
variable {t e : TypeId} {w w1 w2 w' : World} {q n : Nat} {F F1 l : List Nat} {d d' : Nat} {L M : List (Int × Int)} {k : Int × Int} {v v' o : Value}
theorem pair_region : PairT 42 46 := ⟨Try.underlying42, by kernel_rfl⟩
theorem pair_key : PairT 27 48 := ⟨Try.underlying27, by kernel_rfl⟩
theorem eq_region (a b c d : Int) (w : World) : (binOp .eql 46 (.agg #[.int .i64 a, .int .i64 b]) (.agg #[.int .i64 c, .int .i64 d])).run Try.prog w = .ok (.bool (a == c && b == d)) w := by
  have hS : Try.prog.underlying 46 = some (.struct (Try.prog.fieldsOf 46)) := by kernel_rfl
  have hp : Try.prog.stoodInHeld 46 = false := by kernel_rfl
  rw [run_eql_struct, show (10000 : Nat) = 9999 + 1 from rfl, run_equalIn_agg w 9999 46 _ _ hS hp]
  simp only [Program.fieldsOf, Try.underlying46]
  go_simp
  by_cases h1 : a = c <;> by_cases h2 : b = d <;> simp [h1, h2]
theorem take_getK {j : Nat} (h : j < L.length) : L.take (j + 1) = L.take j ++ [L.getD j (0, 0)] := by
  rw [List.take_add_one]; simp [List.getD, h]
set_option maxHeartbeats 2000000 in
theorem gindex_any (J : Prs 46 w v L) (hl : L.length ≤ 8192) : Calls Try.prog 21 #[v, .agg #[.int .i64 k.1, .int .i64 k.2]] w fun e w' => ∃ r : Int, e = .returned (.int .i64 r) ∧ -1 ≤ r ∧ (0 ≤ r ↔ k ∈ L) ∧ Up w w' := by
  obtain ⟨k0, k1⟩ := k
  obtain ⟨A, cap, rfl⟩ := J.slice
  have HJ := Lib.hid J
  clear J
  obtain ⟨b, hb⟩ : ∃ b, w.heap.size = b := ⟨_, rfl⟩
  have y0 : (w.alloc (.cells #[.int .i64 k0, .int .i64 k1] 46)).cell? ⟨b, 0, none⟩ = some (.int .i64 k0) := cell_new hb.symm rfl
  have y1 : (w.alloc (.cells #[.int .i64 k0, .int .i64 k1] 46)).cell? ⟨b, 1, none⟩ = some (.int .i64 k1) := cell_new hb.symm rfl
  have HU0 := Lib.hid (Up.alloc w (.cells #[.int .i64 k0, .int .i64 k1] 46))
  go_enter Try.func21, Try.ntmps21
  go_wp2_with fail
  clear hb
  generalize w.alloc (.cells #[.int .i64 k0, .int .i64 k1] 46) = wA at *
  have HY0 := Lib.hid y0
  have HY1 := Lib.hid y1
  clear y0 y1
  obtain ⟨n, hn⟩ : ∃ n, L.length = n := ⟨_, rfl⟩
  have HN := Lib.hid hn
  rw [hn] at hl ⊢
  clear hn
  go_loopw [8] (fun i wr => ∃ j : Nat, j ≤ n ∧ i = .int .i64 j ∧ Up wA wr ∧ (k0, k1) ∉ L.take j) (fun i _ => n - (intOf i).toNat)
  case atStart => exact ⟨0, Nat.zero_le _, rfl, Up.refl _, by simp⟩
  case round =>
    obtain ⟨j, hj, rfl, hu, hno⟩ := hrel
    have HU := Lib.hid hu
    have HNO := Lib.hid hno
    clear hu hno
    have i0 : (0 : Int) ≤ (j : Int) := Int.natCast_nonneg _
    by_cases hlt : j < n
    · obtain ⟨g, rfl, c0, c1⟩ := HJ.out.cells (k := j) (by rw [HN.out]; exact hlt)
      replace c0 := HU.out.kept (HU0.out.kept c0)
      replace c1 := HU.out.kept (HU0.out.kept c1)
      have y0 := HU.out.kept HY0.out
      have y1 := HU.out.kept HY1.out
      have HTK := Lib.hid (take_getK (L := L) (j := j) (by rw [HN.out]; exact hlt))
      have HME := Lib.hid (show L.getD j (0, 0) ∈ L by have := HN.out; simp [List.getD, show j < L.length by omega])
      obtain ⟨⟨x0, x1⟩, hx⟩ : ∃ x, L.getD j (0, 0) = x := ⟨_, rfl⟩
      rw [hx] at c0 c1 HTK HME
      clear hx
      have i1 : (j : Int) < (n : Int) := by omega
      go_upto_region 4 with fail
      by_cases he : k0 = x0 ∧ k1 = x1
      · obtain ⟨rfl, rfl⟩ := he
        go_quiet (fail)
        go_wp2_with fail
        go_ret
        exact ⟨_, rfl, by omega, ⟨fun _ => HME.out, fun _ => i0⟩, HU0.out.trans (HU.out.then_drewN nq)⟩
      · have hne : ∀ w, (binOp .eql 46 (.agg #[.int .i64 k0, .int .i64 k1]) (.agg #[.int .i64 x0, .int .i64 x1])).run Try.prog w = .ok (.bool false) w := fun w => by
          rw [eq_region]; congr 2; simpa using he
        go_quiet (fail)
        go_wp2_with fail
        go_roundw
        case rel => exact ⟨j + 1, by omega, by go_num, HU.out.then_drewN nq, by rw [HTK.out]; simp [HNO.out]; simpa using he⟩
        case measure => simp [intOf]; omega
    · have i1 : ¬ (j : Int) < (n : Int) := by omega
      have HAL := Lib.hid (show L.take j = L by apply List.take_of_length_le; rw [HN.out]; omega)
      go_wp2_with fail
      go_ret
      refine ⟨_, rfl, by omega, ⟨fun h => absurd h (by decide), fun h => absurd h ?_⟩, HU0.out.trans HU.out⟩
      have := HNO.out
      rwa [HAL.out] at this
set_option maxHeartbeats 2000000 in
theorem gcontains_any (J : Prs 46 w v L) (hl : L.length ≤ 8192) : Calls Try.prog 20 #[v, .agg #[.int .i64 k.1, .int .i64 k.2]] w fun e w' => e = .returned (.bool (decide (k ∈ L))) ∧ Up w w' := by
  obtain ⟨k0, k1⟩ := k
  obtain ⟨b, hb⟩ : ∃ b, w.heap.size = b := ⟨_, rfl⟩
  have y0 : (w.alloc (.cells #[.int .i64 k0, .int .i64 k1] 46)).cell? ⟨b, 0, none⟩ = some (.int .i64 k0) := cell_new hb.symm rfl
  have y1 : (w.alloc (.cells #[.int .i64 k0, .int .i64 k1] 46)).cell? ⟨b, 1, none⟩ = some (.int .i64 k1) := cell_new hb.symm rfl
  have HJ := Lib.hid (J.up (Up.alloc w (.cells #[.int .i64 k0, .int .i64 k1] 46)))
  have HL := Lib.hid hl
  clear J hl
  by_cases hk : (k0, k1) ∈ L
  · have HK := Lib.hid hk
    have HD := Lib.hid (show decide ((k0, k1) ∈ L) = true by simp [hk])
    clear hk
    go_enter Try.func20, Try.ntmps20
    go_wp2_with (go_at_call 21; refine (gindex_any (k := (k0, k1)) HJ.out HL.out).mono ?_; rintro e w1 ⟨r, rfl, r0, r1, U1⟩; replace r1 := r1.2 HK.out)
    go_ret
    rw [HD.out]
    exact ⟨rfl, (Up.alloc _ _).trans U1⟩
  · have HK := Lib.hid hk
    have HD := Lib.hid (show decide ((k0, k1) ∈ L) = false by simp [hk])
    clear hk
    go_enter Try.func20, Try.ntmps20
    go_wp2_with (go_at_call 21; refine (gindex_any (k := (k0, k1)) HJ.out HL.out).mono ?_; rintro e w1 ⟨r, rfl, r0, r1, U1⟩; have r2 := mt r1.1 HK.out; have r3 : r = -1 := (by omega); subst r3; clear r0 r1 r2)
    go_ret
    rw [HD.out]
    exact ⟨rfl, (Up.alloc _ _).trans U1⟩
set_option maxHeartbeats 2000000 in
theorem gholds_any (E : Gri 44 46 w q F d L) (k0 k1 : Int) : Calls Try.prog 18 #[.pointer (some ⟨q, 0, none⟩), .int .i64 k0, .int .i64 k1] w fun e w' => e = .returned (.bool (decide ((k0, k1) ∈ L))) ∧ Up w w' := by
  obtain ⟨u, E⟩ := E
  obtain ⟨c0, c1⟩ := E.cells
  have HP := Lib.hid E.prs
  have HL := Lib.hid (show L.length ≤ 8192 from Nat.le_trans E.lle (by decide))
  clear E
  go_enter Try.func18, Try.ntmps18
  go_wp2_with (go_at_call 20; refine (gcontains_any (k := (k0, k1)) HP.out HL.out).mono ?_; rintro e w1 ⟨rfl, U1⟩)
  go_ret
  exact ⟨rfl, U1⟩
set_option maxHeartbeats 4000000 in
theorem ghold_any (E : Gri 44 46 w q F d L) (k0 k1 : Int) : Calls Try.prog 14 #[.pointer (some ⟨q, 0, none⟩), .int .i64 k0, .int .i64 k1] w fun e w' => e = .returned (.int .i64 (holdE d L (k0, k1))) ∧ Turn 44 46 w w' q F d (holdL d L (k0, k1)) := by
  have HG := Lib.hid E
  obtain ⟨u, E⟩ := E
  obtain ⟨c0, c1⟩ := E.cells
  by_cases h0 : d = 0
  · subst h0
    have HE := Lib.hid E.same
    clear E
    go_enter Try.func14, Try.ntmps14
    go_wp2_with fail
    go_ret
    exact ⟨rfl, HE.out⟩
  have n0 : ((d : Int) == 0) = false := by simp; omega
  by_cases hk : (k0, k1) ∈ L
  · have HE := Lib.hid E
    have HA := Lib.hid (show holdE d L (k0, k1) = 0 by simp [holdE, h0, hk])
    have HB := Lib.hid (show holdL d L (k0, k1) = L by simp [holdL, h0, hk])
    have HD := Lib.hid (show decide ((k0, k1) ∈ L) = true by simp [hk])
    clear E hk h0
    go_enter Try.func14, Try.ntmps14
    go_wp2_with (go_at_call 18; refine (gholds_any HG.out k0 k1).mono ?_; rintro e w1 ⟨rfl, U1⟩; rw [HD.out])
    go_ret
    rw [HA.out, HB.out]
    exact ⟨rfl, (HE.out.up U1).same.up U1⟩
  obtain ⟨A, N, c, rfl⟩ := shapeP E.prs
  have HN := Lib.hid (show L.length = N by obtain ⟨A', c', e⟩ := E.prs.slice; injection e with _ e2 _; exact e2.symm)
  have HE := Lib.hid E
  have HD := Lib.hid (show decide ((k0, k1) ∈ L) = false by simp [hk])
  by_cases h8 : L.length = 8
  · have HA := Lib.hid (show holdE d L (k0, k1) = 8 by simp [holdE, h0, hk, h8])
    have HB := Lib.hid (show holdL d L (k0, k1) = L by simp [holdL, h0, hk, h8])
    obtain rfl : N = 8 := by rw [← HN.out]; exact h8
    clear E hk h0 h8
    go_enter Try.func14, Try.ntmps14
    go_wp2_with (go_at_call 18; refine (gholds_any HG.out k0 k1).mono ?_; rintro e w1 ⟨rfl, U1⟩; rw [HD.out]; have d1 := U1.kept c1)
    go_ret
    rw [HA.out, HB.out]
    exact ⟨rfl, (HE.out.up U1).same.up U1⟩
  · have HA := Lib.hid (show holdE d L (k0, k1) = 0 by simp [holdE, h0, hk, h8])
    have HB := Lib.hid (show holdL d L (k0, k1) = L ++ [(k0, k1)] by simp [holdL, h0, hk, h8])
    have n8 : ((N : Int) == 8) = false := by have := HN.out; simp; omega
    have HL := Lib.hid (show (L ++ [(k0, k1)]).length ≤ 8 by have := E.lle; simp; omega)
    have HL2 := Lib.hid (show L.length + [(k0, k1)].length ≤ 8192 by have := E.lle; simp; omega)
    clear E hk h0 h8
    go_enter Try.func14, Try.ntmps14
    go_wp2_with (first
      | (go_at_call 18; refine (gholds_any HG.out k0 k1).mono ?_; rintro e w1 ⟨rfl, U1⟩; rw [HD.out]; have d1 := U1.kept c1)
      | (at_builtin; refine wpList_appP (v := .slice A N c) pair_region rfl _ _ rfl rfl rfl (HE.out.prs.up (U1.then_alloc _)) (prs_one _ _ k0 k1) HL2.out ?_; intro v5 w5 J5 G5 A5; obtain ⟨B5, M5, k5, rfl⟩ := shapeP J5; have T5 := (HE.out.top.up (U1.then_alloc (.cells #[.int .i64 k0, .int .i64 k1] 46))).grown G5 (fun e => HE.out.nq e.symm); have c5 : w5.cell? ⟨q, 1, none⟩ = some (.slice A N c) := T5.cell rfl; have f5 := T5.frozen 1; have HJ5 := Lib.hid J5; have HG5 := Lib.hid G5; have HA5 := Lib.hid A5; have HU5 := Lib.hid (U1.then_alloc (.cells #[.int .i64 k0, .int .i64 k1] 46)); clear J5 G5 A5 T5))
    go_ret
    rw [HA.out, HB.out]
    exact ⟨rfl, HE.out.gave HU5.out HG5.out HJ5.out HL.out HA5.out⟩
end
end Go.Proofs.Ytkfmnaocdfoigaa
