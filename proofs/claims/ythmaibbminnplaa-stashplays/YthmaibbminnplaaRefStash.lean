/-
  The reference's stash: the contracts of NewStash, Give, Take, Over, All.
-/
import Derived.Test.YthmaibbminnplaaStashTwo
namespace Go.Proofs.Ythmaibbminnplaa
open Go.RowKit
set_option maxRecDepth 100000
section
variable {t : TypeId} {w w1 w2 w' : World} {q n : Nat} {F F1 : List Nat} {m a : Int} {xs ys zs : List Int} {v v' o : Value}
set_option maxHeartbeats 1000000 in
theorem rsnew_any (w : World) (a : Int) : Calls Try.prog 9 #[.int .i64 a] w fun e w' => ∃ q, e = .returned (.pointer (some ⟨q, 0, none⟩)) ∧ Sta 39 w' q [q] (cutM a) [] ∧ w.heap.size ≤ q ∧ Up w w' := by
  unfold cutM
  by_cases h0 : a < 0
  · rw [if_pos h0]
    have h1 : ¬ (0 : Int) ≤ a := by omega
    go_enter Try.func9, Try.ntmps9
    go_wp2
    go_ret
    exact ⟨_, rfl, sta_new _ _ _, Nat.le_refl _, Up.alloc _ _⟩
  · rw [if_neg h0]
    by_cases h1 : 64 < a
    · rw [if_pos h1]
      go_enter Try.func9, Try.ntmps9
      go_wp2
      go_ret
      exact ⟨_, rfl, sta_new _ _ _, Nat.le_refl _, Up.alloc _ _⟩
    · rw [if_neg h1]
      go_enter Try.func9, Try.ntmps9
      go_wp2
      go_ret
      exact ⟨_, rfl, sta_new _ _ _, Nat.le_refl _, Up.alloc _ _⟩
set_option maxHeartbeats 1000000 in
theorem rsgive_any (E : Sta 39 w q F m xs) (R : Rd w v ys) (hl : xs.length + ys.length ≤ 8192) :
    Calls Try.prog 12 #[.pointer (some ⟨q, 0, none⟩), v] w fun e w' => e = .returned (.tuple #[]) ∧ Gave 39 w w' q F m (xs ++ ys) := by
  obtain ⟨u, E⟩ := E
  obtain ⟨A, N, c, rfl⟩ := shapeI E.ints
  obtain ⟨c0, c1⟩ := E.cells
  obtain ⟨A2, cap2, rfl⟩ := R.slice
  have HE := Lib.hid E
  have HR := Lib.hid R
  have HL1 := Lib.hid (show ([] : List Int).length + xs.length ≤ 8192 by simp; omega)
  have HL2 := Lib.hid (show ([] ++ xs).length + ys.length ≤ 8192 by simpa using hl)
  clear E R hl
  go_enter Try.func12, Try.ntmps12
  go_wp2_with (first
    | (at_builtin; refine wpList_app (v := .slice none 0 0) rfl _ _ rfl rfl rfl (Ints.nil _) HE.out.ints.rd HL1.out ?_; intro v5 w5 J5 G5 A5; obtain ⟨B5, M5, k5, rfl⟩ := shapeI J5; have HJ5 := Lib.hid J5; have HU5 := Lib.hid (up_app (Up.refl w) G5 (fresh_nil _)); have HF5 := Lib.hid (fresh_app (fresh_nil w) (Nat.le_refl _) A5); clear J5 G5 A5)
    | (at_builtin; refine wpList_app (v := .slice B5 M5 k5) rfl _ _ rfl rfl rfl HJ5.out (HR.out.up HU5.out) HL2.out ?_; intro v6 w6 J6 G6 A6; obtain ⟨B6, M6, k6, rfl⟩ := shapeI J6; have HJ6 := Lib.hid J6; have HU6 := Lib.hid (up_app HU5.out G6 HF5.out); have HF6 := Lib.hid (fresh_app HF5.out HU5.out.size A6); have c5 := HU6.out.kept c1; have f5 := (HE.out.top.up HU6.out).frozen 1; clear J6 G6 A6))
  go_end0
  exact ⟨rfl, HE.out.renew HU6.out (by simpa using HJ6.out) HF6.out⟩
set_option maxHeartbeats 1000000 in
theorem rsall_any (E : Sta 39 w q F m xs) : Calls Try.prog 19 #[.pointer (some ⟨q, 0, none⟩)] w fun e w' => ∃ o, e = .returned o ∧ Took 39 w w' q F m [] o xs := by
  obtain ⟨u, E⟩ := E
  obtain ⟨c0, c1⟩ := E.cells
  have f1 := E.top.frozen 1
  have HE := Lib.hid E
  clear E
  go_enter Try.func19, Try.ntmps19
  go_wp2_with fail
  go_ret
  exact ⟨_, rfl, HE.out.handed.1⟩
set_option maxHeartbeats 1000000 in
theorem rstake_none (E : Sta 39 w q F m []) : Calls Try.prog 14 #[.pointer (some ⟨q, 0, none⟩)] w fun e w' => e = .returned (.tuple #[.int .i64 0, .bool false]) ∧ w = w' := by
  obtain ⟨u, E⟩ := E
  obtain ⟨A, c, rfl⟩ := E.ints.slice
  obtain ⟨c0, c1⟩ := E.cells
  clear E
  go_enter Try.func14, Try.ntmps14
  go_wp2_with fail
  go_ret2
  exact ⟨rfl, rfl⟩
set_option maxHeartbeats 1000000 in
theorem rstake_some (E : Sta 39 w q F m (ys ++ [a])) (hl : ys.length ≤ 8000) : Calls Try.prog 14 #[.pointer (some ⟨q, 0, none⟩)] w fun e w' => e = .returned (.tuple #[.int .i64 a, .bool true]) ∧ Gave 39 w w' q F m ys := by
  obtain ⟨u, E⟩ := E
  obtain ⟨A, N, c, rfl⟩ := shapeI E.ints
  obtain ⟨c0, c1⟩ := E.cells
  have hN : N = ys.length + 1 := by have := E.ints.nOf; simpa [nOf] using this
  have hcap := E.ints.cap
  obtain ⟨g, off, rfl, hc⟩ := E.ints.rd.cell (j := ys.length) (by simp)
  obtain ⟨K, hK⟩ : ∃ K, ys.length = K := ⟨_, rfl⟩
  rw [show (ys ++ [a]).getD ys.length 0 = a by simp [List.getD]] at hc
  have HRT := Lib.hid (show Rd w (.slice (some ⟨g, off, none⟩) K c) ys by
    have := cutHi_rd (c := K) (cap2 := c) E.ints.rd (by simp; omega)
    rwa [show (ys ++ [a]).take K = ys by rw [← hK]; simp] at this)
  have HL1 := Lib.hid (show ([] : List Int).length + ys.length ≤ 8192 by simp; omega)
  rw [hK] at hc hN hl
  have HE := Lib.hid E
  have k0 : (0 : Int) ≤ (K : Int) := Int.natCast_nonneg _
  have k1 : (K : Int) < (N : Int) := by omega
  have n0 : ((N : Int) == 0) = false := by simp; omega
  have rs := run_cutHi (some ⟨g, off, none⟩) N c K (by omega)
  have a1 : wrap64 ((N : Int) - 1) = (K : Int) := by rw [wrap64_in (by omega) (by omega)]; omega
  clear E hN hcap hK
  go_enter Try.func14, Try.ntmps14
  go_wp2_with (first
    | (at_builtin; refine wpList_app (v := .slice none 0 0) rfl _ _ rfl rfl rfl (Ints.nil _) HRT.out HL1.out ?_; intro v5 w5 J5 G5 A5; obtain ⟨B5, M5, k5, rfl⟩ := shapeI J5; have HJ5 := Lib.hid J5; have HU5 := Lib.hid (up_app (Up.refl w) G5 (fresh_nil _)); have HF5 := Lib.hid (fresh_app (fresh_nil w) (Nat.le_refl _) A5); have c5 := HU5.out.kept c1; have f5 := (HE.out.top.up HU5.out).frozen 1; clear J5 G5 A5))
  go_ret2
  exact ⟨rfl, HE.out.renew HU5.out (by simpa using HJ5.out) HF5.out⟩
/-- Behind a list that was made (o) and another one that was made and stored: the first one is nobody's. -/
theorem split_took (E : StaV t w q F m xs v) (U1 : Up w w1) (J1 : Ints w1 o ys) (F1 : Fresh w o) (U2 : Up w1 w2) (J2 : Ints w2 v' zs) (F2 : Fresh w1 v') : Took t w (w2.setCell ⟨q, 1, none⟩ v') q F m zs o ys := by
  obtain ⟨F', S, N, X⟩ := (E.up U1).renew U2 J2 F2
  have hq := E.lt q E.mem
  have s1 := U1.size
  have a0 : Away o F := fun b hb e => by have := E.lt b hb; have := F1 b e; omega
  refine ⟨F', S, (J1.rd.else X a0), fun b hb e => ?_, fun b hb => (N b hb).imp id (fun h => Nat.le_trans s1 h), fun b hb => .inr (F1 b hb), (Else.of_up U1).trans X⟩
  rcases N b hb with h | h
  · exact a0 b h e
  · have := J1.lt e; omega
set_option maxHeartbeats 2000000 in
theorem rsover_few (E : Sta 39 w q F m xs) (hK : (xs.length : Int) < m) (hm0 : 0 ≤ m ∧ m ≤ 64) (hl : xs.length ≤ 8000) :
    Calls Try.prog 17 #[.pointer (some ⟨q, 0, none⟩)] w fun e w' => ∃ o, e = .returned o ∧ Took 39 w w' q F m (xs.drop 0) o (xs.take 0) := by
  obtain ⟨u, E⟩ := E
  obtain ⟨A, c, rfl⟩ := E.ints.slice
  obtain ⟨c0, c1⟩ := E.cells
  have hcap := E.ints.cap
  obtain ⟨N, hN⟩ : ∃ N, xs.length = N := ⟨_, rfl⟩
  have HE := Lib.hid E
  clear E
  have HN := Lib.hid hN
  rw [hN] at hK c1 hl HE hcap
  clear hN
  have HLT := Lib.hid (show ([] : List Int).length + (xs.take 0).length ≤ 8192 by simp)
  have HLD := Lib.hid (show ([] : List Int).length + (xs.drop 0).length ≤ 8192 by simp; have := HN.out; omega)
  have k2 : (N : Int) - m < 0 := by omega
  have rs1 : ∀ w, (Instr.slice 28 (.slice A N c) none (some (.int .i64 0)) none).run Try.prog w = .ok (.slice A 0 c) w := run_cutHi A N c 0 (Nat.zero_le _)
  have rs2 : ∀ w, (Instr.slice 28 (.slice A N c) (some (.int .i64 0)) none none).run Try.prog w = .ok (cutLo A 0 N c) w := run_cutLo A N c 0 (Nat.zero_le _)
  have a1 : IntKind.i64.wrap ((N : Int) - m) = (N : Int) - m := IntWalk.i64_in _ (by omega)
  go_enter Try.func17, Try.ntmps17
  go_upto_region 1 with fail
  go_quiet (fail)
  have HE1 := Lib.hid (HE.out.up (Up.drewN w nq))
  go_wp2_with (first
    | (at_builtin; refine wpList_app (v := .slice none 0 0) rfl _ _ rfl rfl rfl (Ints.nil _) (cutHi_rd (c := 0) (cap2 := c) HE1.out.ints.rd (by rw [HN.out]; omega)) HLT.out ?_; intro v5 w5 J5 G5 A5; obtain ⟨B5, M5, k5, rfl⟩ := shapeI J5; have HJ5 := Lib.hid J5; have HU5 := Lib.hid (up_app (Up.refl _) G5 (fresh_nil _)); have HF5 := Lib.hid (fresh_app (fresh_nil _) (Nat.le_refl _) A5); have c5 := HU5.out.kept (show (w.drewN nq).cell? _ = _ from c1); clear J5 G5 A5)
    | (at_builtin; refine wpList_app (v := .slice none 0 0) rfl _ _ rfl rfl rfl (Ints.nil _) (cutLo_rd (c := 0) (HE1.out.ints.rd.up HU5.out) (by rw [HN.out]; omega) hcap) HLD.out ?_; intro v6 w6 J6 G6 A6; obtain ⟨B6, M6, k6, rfl⟩ := shapeI J6; have HJ6 := Lib.hid J6; have HU6 := Lib.hid (up_app (Up.refl _) G6 (fresh_nil _)); have HF6 := Lib.hid (fresh_app (fresh_nil _) (Nat.le_refl _) A6); have c6 := HU6.out.kept c5; have f6 := ((HE1.out.top.up HU5.out).up HU6.out).frozen 1; clear J6 G6 A6))
  go_ret
  exact ⟨_, rfl, (split_took HE1.out HU5.out (by simpa using HJ5.out) HF5.out HU6.out (by simpa using HJ6.out) HF6.out).up (Up.drewN _ _)⟩
set_option maxHeartbeats 2000000 in
theorem rsover_many (E : Sta 39 w q F m xs) {K : Nat} (hK : (xs.length : Int) - m = K) (hm0 : 0 ≤ m) (hl : xs.length ≤ 8000) :
    Calls Try.prog 17 #[.pointer (some ⟨q, 0, none⟩)] w fun e w' => ∃ o, e = .returned o ∧ Took 39 w w' q F m (xs.drop K) o (xs.take K) := by
  obtain ⟨u, E⟩ := E
  obtain ⟨A, c, rfl⟩ := E.ints.slice
  obtain ⟨c0, c1⟩ := E.cells
  have hcap := E.ints.cap
  obtain ⟨N, hN⟩ : ∃ N, xs.length = N := ⟨_, rfl⟩
  have HE := Lib.hid E
  clear E
  have HN := Lib.hid hN
  rw [hN] at hK c1 hl HE hcap
  clear hN
  have HLT := Lib.hid (show ([] : List Int).length + (xs.take K).length ≤ 8192 by simp; have := HN.out; omega)
  have HLD := Lib.hid (show ([] : List Int).length + (xs.drop K).length ≤ 8192 by simp; have := HN.out; omega)
  have hKN : K ≤ N := by omega
  have k2 : ¬ (K : Int) < 0 := by omega
  have rs1 := run_cutHi A N c K (by omega)
  have rs2 := run_cutLo A N c K hKN
  have a1 : IntKind.i64.wrap ((N : Int) - m) = (K : Int) := by rw [IntWalk.i64_in _ (by omega)]; omega
  clear hK
  go_enter Try.func17, Try.ntmps17
  go_upto_region 1 with fail
  go_quiet (fail)
  have HE1 := Lib.hid (HE.out.up (Up.drewN w nq))
  go_wp2_with (first
    | (at_builtin; refine wpList_app (v := .slice none 0 0) rfl _ _ rfl rfl rfl (Ints.nil _) (cutHi_rd (c := K) (cap2 := c) HE1.out.ints.rd (by rw [HN.out]; omega)) HLT.out ?_; intro v5 w5 J5 G5 A5; obtain ⟨B5, M5, k5, rfl⟩ := shapeI J5; have HJ5 := Lib.hid J5; have HU5 := Lib.hid (up_app (Up.refl _) G5 (fresh_nil _)); have HF5 := Lib.hid (fresh_app (fresh_nil _) (Nat.le_refl _) A5); have c5 := HU5.out.kept (show (w.drewN nq).cell? _ = _ from c1); clear J5 G5 A5)
    | (at_builtin; refine wpList_app (v := .slice none 0 0) rfl _ _ rfl rfl rfl (Ints.nil _) (cutLo_rd (c := K) (HE1.out.ints.rd.up HU5.out) (by rw [HN.out]; omega) hcap) HLD.out ?_; intro v6 w6 J6 G6 A6; obtain ⟨B6, M6, k6, rfl⟩ := shapeI J6; have HJ6 := Lib.hid J6; have HU6 := Lib.hid (up_app (Up.refl _) G6 (fresh_nil _)); have HF6 := Lib.hid (fresh_app (fresh_nil _) (Nat.le_refl _) A6); have c6 := HU6.out.kept c5; have f6 := ((HE1.out.top.up HU5.out).up HU6.out).frozen 1; clear J6 G6 A6))
  go_ret
  exact ⟨_, rfl, (split_took HE1.out HU5.out (by simpa using HJ5.out) HF5.out HU6.out (by simpa using HJ6.out) HF6.out).up (Up.drewN _ _)⟩
end
end Go.Proofs.Ythmaibbminnplaa
