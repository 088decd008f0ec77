/-
  Texts beneath RootsOnce, part 12: RefRest.
-/
import Derived.Test.YtalglhgngedjoaaPart11
/-
  The reference's stack: Fill, List; the statement's own same.
-/
namespace Go.Proofs.Ytalglhgngedjoaa
open Go.RowKit
open W64
set_option maxRecDepth 100000

/-- The links that Fill lays, up to k. -/
def fillR (xs : List Int) (ln n : Nat) : Nat → List Int
  | 0 => xs
  | k + 1 => (fillR xs ln n k).set (ln + k) (if k + 1 = n then 0 else (k : Int) + 2)
theorem fillR_len (xs : List Int) (ln n : Nat) : ∀ k, (fillR xs ln n k).length = xs.length
  | 0 => rfl
  | k + 1 => by unfold fillR; rw [List.length_set, fillR_len]
theorem fillR_ok {xs : List Int} (h : ∀ i, 0 ≤ xs.getD i 0 ∧ xs.getD i 0 < 18446744073709551616) (ln n : Nat) : ∀ k, k ≤ 8192 → ∀ i, 0 ≤ (fillR xs ln n k).getD i 0 ∧ (fillR xs ln n k).getD i 0 < 18446744073709551616
  | 0, _ => h
  | k + 1, hk => by
    unfold fillR
    refine ok_set (fillR_ok h ln n k (by omega)) ?_ ?_ <;> split <;> omega
theorem fillR_hd {xs : List Int} {ln n : Nat} {v : Int} (hln : 1 ≤ ln) : ∀ k, fillR (xs.set 0 v) ln n k = (fillR xs ln n k).set 0 v
  | 0 => rfl
  | k + 1 => by
    unfold fillR
    rw [fillR_hd hln k, List.set_comm _ _ (by omega)]
theorem fillR_K (s : St) (n : Nat) : ∀ k, k < n → fillR s.xs 2 n k = (fillK s 2 k).xs
  | 0, _ => rfl
  | k + 1, h => by
    unfold fillR fillK St.lay
    dsimp only
    rw [fillR_K s n k (by omega), if_neg (by omega), show (((2 : Nat) : Int) + k).toNat = 2 + k by omega]
theorem fillR_is (s : St) (n : Nat) (h : 1 ≤ n) : fillR (s.xs.set 0 1) 2 n n = (fillS s 0 2 n).xs := by
  obtain ⟨k, rfl⟩ : ∃ k, n = k + 1 := ⟨n - 1, by omega⟩
  rw [fillR_hd (by omega)]
  unfold fillS St.lay
  dsimp only
  unfold fillR
  rw [fillR_K s (k + 1) k (by omega), if_pos rfl, show (((2 : Nat) : Int) + ((k + 1 : Nat) : Int) - 1).toNat = 2 + k by omega, show k + 1 - 1 = k by omega]
  rfl
section
variable {w w' : World} {p g q hd ln n : Nat} {xs : List Int} {c : Int} {s : St} {S : List Nat}
theorem REnv.put (E : REnv w p g q hd ln n xs c) (i : Nat) {v : Int} (h0 : 0 ≤ v) (h1 : v < 18446744073709551616) : REnv (w.setCell ⟨g, i, none⟩ (.int .u64 v)) p g q hd ln n (xs.set i v) c := by
  have u : Else [p, g] w (w.setCell ⟨g, i, none⟩ (.int .u64 v)) := (Else.refl _ w).set (.inl (by simp)) _
  exact E.turn (E.mem.set i v) u (by simp [E.np, E.ng]) (ok_set E.ok h0 h1) (by simp)
theorem head_one : headB 0 0 = true ∧ headN 0 0 = 1 := by decide
def RFill (w : World) (p g q hd ln n : Nat) (xs : List Int) (c : Int) (i : Value) (wr : World) : Prop := ∃ k : Nat, k ≤ n ∧ i = .int .i64 k ∧ REnv wr p g q hd ln n (fillR xs ln n k) c ∧ Else [p, g] w wr
theorem tmod_fill {k n : Nat} (h : k + 1 < n) : ((k : Int) + 2).tmod ((n : Int) + 1) = (k : Int) + 2 := by
  rw [Int.tmod_eq_emod_of_nonneg (by omega)]; exact Int.emod_eq_of_lt (by omega) (by omega)
theorem tmod_last {k n : Nat} (h : k + 1 = n) : ((k : Int) + 2).tmod ((n : Int) + 1) = 0 := by
  have : (k : Int) + 2 = (n : Int) + 1 := by omega
  rw [this]; exact Int.tmod_self
set_option maxHeartbeats 4000000 in
theorem rfill_in (E : REnv w p g q hd ln n xs c) :
    Calls Try.prog 46 #[.pointer (some ⟨q, 0, none⟩)] w fun e w' => e = .returned (.tuple #[]) ∧ REnv w' p g q hd ln n (fillR (xs.set hd 1) ln n n) c ∧ Else [p, g] w w' := by
  have H1 := Lib.hid head_one
  have n0 := E.n0
  have n1 := E.n1
  have hhx := E.hh
  have hlx := E.hl
  have htx := E.top
  have hq : q ∉ [p, g] := by simp [E.np, E.ng]
  have i8 : (0 : Int) ≤ (hd : Int) := Int.natCast_nonneg _
  have i9 : (hd : Int) < (xs.length : Int) := by omega
  have HE := Lib.hid E
  clear E
  go_enter Try.func46, Try.ntmps46
  go_upto_region 1 with (first
    | (go_at_call 67; refine (rputHead_yes 0 0 _ H1.out.1).mono ?_; rintro e w1 ⟨rfl, U1⟩; rw [H1.out.2]))
  have HE1 := Lib.hid (HE.out.up U1)
  obtain ⟨k0, k1, k2, k3⟩ := HE1.out.cells
  have r0 := HE1.out.mem.cells.1
  have rh := HE1.out.mem.cell hhx
  have rf := HE1.out.mem.row.frozen hd
  go_still_tail 13, (by kernel_rfl)
  go_wp2_with fail
  have HE2 := Lib.hid ((HE1.out.put hd (v := 1) (by omega) (by omega)).up (Up.drewN _ 1))
  have HX2 := Lib.hid (((Else.of_up (s := [p, g]) U1).set (p := ⟨g, hd, none⟩) (.inl (by simp)) (.int .u64 1)).up (Up.drewN _ 1))
  clear k0 k1 k2 k3 r0 rh rf U1
  go_loopw [4] (fun i wr => RFill w p g q hd ln n (xs.set hd 1) c i wr) (fun i _ => n - (intOf i).toNat)
  case atStart => exact ⟨0, Nat.zero_le _, rfl, HE2.out, HX2.out⟩
  case round =>
    obtain ⟨k, hk, rfl, ER, XR⟩ := hrel
    have HER := Lib.hid ER
    have HXR := Lib.hid XR
    clear ER XR
    obtain ⟨k0, k1, k2, k3⟩ := HER.out.cells
    have r0 := HER.out.mem.cells.1
    rw [fillR_len, List.length_set] at r0
    have i0 : (0 : Int) ≤ (k : Int) := Int.natCast_nonneg _
    by_cases hlt : k < n
    · have i1 : (k : Int) < (n : Int) := by omega
      have hkl : ln + k < (fillR (xs.set hd 1) ln n k).length := by rw [fillR_len, List.length_set]; omega
      have rh := HER.out.mem.cell hkl
      have rf := HER.out.mem.row.frozen (ln + k)
      have i2 : (ln : Int) + (k : Int) < (xs.length : Int) := by omega
      have i3 : (0 : Int) ≤ (ln : Int) + (k : Int) := by omega
      have e1 : ((ln : Int) + (k : Int)).toNat = ln + k := by omega
      have HK := Lib.hid hkl
      clear hkl
      have s9 : (-9223372036854775808 ≤ (k : Int) + 2 ∧ (k : Int) + 2 ≤ 9223372036854775807) ∧ (-9223372036854775808 ≤ (n : Int) + 1 ∧ (n : Int) + 1 ≤ 9223372036854775807) ∧ (0 ≤ (k : Int) + 2 ∧ (k : Int) + 2 ≤ 18446744073709551615) ∧ ln + k ≤ 8400000 ∧ (-9223372036854775808 ≤ (n : Int) - 1 ∧ (n : Int) - 1 ≤ 9223372036854775807) := by omega
      obtain ⟨z1, z2, z3, z4, z5⟩ := s9
      have HZ := Lib.hid (And.intro (IntWalk.i64_in ((k : Int) + 2) z1) (And.intro (IntWalk.i64_in ((n : Int) + 1) z2) (And.intro (IntWalk.u64_in ((k : Int) + 2) z3) (And.intro (wrapS (a := ln) (b := k) z4) (IntWalk.i64_in ((n : Int) - 1) z5)))))
      clear z1 z2 z3 z4 z5
      by_cases hlast : k + 1 = n
      · have I4 := Lib.hid (show ((k : Int) == (n : Int) - 1) = true by simp; omega)
        have HS := Lib.hid (show fillR (xs.set hd 1) ln n (k + 1) = ((fillR (xs.set hd 1) ln n k).set (ln + k) 0).set (ln + k) 0 by
          rw [List.set_set]; show (fillR (xs.set hd 1) ln n k).set (ln + k) (if k + 1 = n then 0 else (k : Int) + 2) = _
          rw [if_pos hlast])
        have t1 := tmod_last hlast
        have HLA := Lib.hid hlast
        clear hlast
        go_upto_region 5 with fail
        obtain ⟨y1, y2, y3, ⟨y4, y5⟩, y6⟩ := HZ.out
        have y7 : ¬ ((n : Int) + 1 = 0) := by clear y1 y2 y3 y4 y5 y6; omega
        have y8 : ((n : Int) + 1 == 0) = false := by simpa using y7
        go_still_tail 23, (by kernel_rfl)
        have HE5 := Lib.hid ((HER.out.put (ln + k) (v := 0) (by omega) (by omega)).up (up_drew _))
        have HX5 := Lib.hid ((HXR.out.set (p := ⟨g, ln + k, none⟩) (.inl (by simp)) (.int .u64 0)).up (up_drew _))
        go_upto_region 6 with fail
        clear k0 k1 k2 k3 r0 rh rf t1
        generalize (wr.setCell ⟨g, ln + k, none⟩ (.int .u64 0)).drew = w5 at *
        obtain ⟨k0, k1, k2, k3⟩ := HE5.out.cells
        have r0 := HE5.out.mem.cells.1
        rw [List.length_set, fillR_len, List.length_set] at r0
        have rh := HE5.out.mem.cell (i := ln + k) (by rw [List.length_set]; exact HK.out)
        have rf := HE5.out.mem.row.frozen (ln + k)
        have i4 := I4.out
        go_upto_region 7 with fail
        clear i4
        go_still_tail 14, (by kernel_rfl)
        go_wp2_with fail
        go_roundw
        case rel =>
          refine ⟨k + 1, by omega, by go_num, ?_, (HX5.out.set (p := ⟨g, ln + k, none⟩) (.inl (by simp)) (.int .u64 0)).up (up_drew _)⟩
          rw [HS.out]; exact (HE5.out.put (ln + k) (v := 0) (by omega) (by omega)).up (up_drew _)
        case measure => simp [intOf]; omega
      · have i4 : ((k : Int) == (n : Int) - 1) = false := by simp; omega
        have HS := Lib.hid (show fillR (xs.set hd 1) ln n (k + 1) = (fillR (xs.set hd 1) ln n k).set (ln + k) ((k : Int) + 2) by
          show (fillR (xs.set hd 1) ln n k).set (ln + k) (if k + 1 = n then 0 else (k : Int) + 2) = _
          rw [if_neg hlast])
        have t1 := tmod_fill (k := k) (n := n) (by omega)
        go_upto_region 5 with fail
        obtain ⟨y1, y2, y3, ⟨y4, y5⟩, y6⟩ := HZ.out
        have y7 : ¬ ((n : Int) + 1 = 0) := by clear y1 y2 y3 y4 y5 y6; omega
        have y8 : ((n : Int) + 1 == 0) = false := by simpa using y7
        go_still_tail 23, (by kernel_rfl)
        have HE5 := Lib.hid ((HER.out.put (ln + k) (v := (k : Int) + 2) (by omega) (by omega)).up (up_drew _))
        have HX5 := Lib.hid ((HXR.out.set (p := ⟨g, ln + k, none⟩) (.inl (by simp)) (.int .u64 ((k : Int) + 2))).up (up_drew _))
        go_upto_region 6 with fail
        clear k0 k1 k2 k3 r0 rh rf t1
        generalize (wr.setCell ⟨g, ln + k, none⟩ (.int .u64 ((k : Int) + 2))).drew = w5 at *
        obtain ⟨k0, k1, k2, k3⟩ := HE5.out.cells
        go_wp2_with fail
        go_roundw
        case rel => exact ⟨k + 1, by omega, by go_num, by rw [HS.out]; exact HE5.out, HX5.out⟩
        case measure => simp [intOf]; omega
    · have i1 : ¬ (k : Int) < (n : Int) := by omega
      have ek : k = n := by omega
      subst ek
      go_wp2_with fail
      go_end0
      exact ⟨rfl, HER.out, HXR.out⟩
end
end Go.Proofs.Ytalglhgngedjoaa
