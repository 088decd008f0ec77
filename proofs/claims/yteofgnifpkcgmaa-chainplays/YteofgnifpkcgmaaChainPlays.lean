/-
  Whatever links are set, in whatever order: each cell, each list, each Walk and how many accesses it does, are the document's.
-/
import Derived.Test.YteofgnifpkcgmaaPart17
import Derived.Test.YteofgnifpkcgmaaRows
import Derived.WalkKit
import Derived.ProofKit
import Derived.OpenShut
import Derived.ShutString
import Derived.ChangeOld
import Derived.Below
import Derived.Carry
import Derived.Lib.SmallJoins
import Derived.Deep.RegionHeldLaw
import Derived.Deep.RegionLaw
namespace Go.Proofs.Yteofgnifpkcgmaa.chainPlays
open Go.ChangeShapes Go.WideShapes Go.ChangeAt Go.RowKit Go.Joins Go.Proofs.Yteofgnifpkcgmaa W64
open Go.ChangeMaps (open_string shut_string)
set_option linter.unusedVariables false

theorem own : ownKnob Try.prog.godebug = none := by kernel_rfl
theorem laidOut : laidOutB Try.prog = true := by kernel_rfl


set_option maxHeartbeats 16000000 in
set_option maxRecDepth 100000 in
theorem walk (a0 : Int) (a1 : Option Addr) (len1 cap1 : Nat) (z1 : Nat → Nat → Int) (w : World) (w0 : (Lit.int .i64 a0).wf = true) (w1 : IsRows [.i64, .i64] w a1 len1 cap1 z1) :
    Calls Try.prog 3 #[.int .i64 a0, .slice a1 len1 cap1] w fun e w' => e = .returned (.bool true) ∧ Up w w' := by
  have hm := w1.len_le
  unfold maxLen at hm
  have HW1 := Lib.hid w1
  clear w0 w1
  by_cases hlen : len1 ≤ 40
  rotate_left
  · have hl2 : (40 : Int) < (len1 : Int) := by omega
    go_enter Try.func3, Try.ntmps3
    go_wp2_with (go_at_call 7; (with_reducible refine (first12 _).mono ?_); rintro r wA ⟨rfl, UA⟩)
    go_ret
    exact ⟨rfl, UA⟩
  have hl2 : ¬ (40 : Int) < (len1 : Int) := by omega
  obtain ⟨x8, hx8, _, x80, x81⟩ := emod_letter a0 8 (by decide)
  obtain ⟨n, hn⟩ : ∃ n : Nat, 3 + x8 = (n : Int) := ⟨(3 + x8).toNat, by omega⟩
  have n3 : 3 ≤ n := by omega
  have n10 : n ≤ 10 := by omega
  have HX8 := Lib.hid hx8
  have HN8 := Lib.hid hn
  have HMAY := Lib.hid (show mayB (cfM n) = true from cfM_may (by omega) (by omega))
  have HLEN := Lib.hid (show ((6 + 9 * n : Nat) : Int) = lenN (cfM n) from (cfM_len (by omega) (by omega)).symm)
  clear hx8 hn x80 x81
  go_enter Try.func3, Try.ntmps3
  go_upto_region 7 with (first
    | (go_at_call 7; (with_reducible refine (first12 _).mono ?_); rintro r wA ⟨rfl, UA⟩; have HUA := Lib.hid UA; clear UA)
    | (go_at_call 8; (with_reducible refine (size_any HX8.out HN8.out _).mono ?_); rintro r wB ⟨rfl, UB⟩; have HUB := Lib.hid (HUA.out.trans UB); clear UB))
  obtain ⟨bc, hbc⟩ : ∃ bc, wB.heap.size = bc := ⟨_, rfl⟩
  have HB := Lib.hid (Whole.new wB 25 #[.int .i64 1, .int .i64 (n : Int), .int .i64 8, .int .i64 1, .int .i64 0, .int .i64 1])
  have HU0 := Lib.hid (HUB.out.then_alloc (.cells #[.int .i64 1, .int .i64 (n : Int), .int .i64 8, .int .i64 1, .int .i64 0, .int .i64 1] 25))
  rw [hbc] at HB ⊢
  clear hbc
  generalize wB.alloc (.cells #[.int .i64 1, .int .i64 (n : Int), .int .i64 8, .int .i64 1, .int .i64 0, .int .i64 1] 25) = w0 at *
  have e0 := HB.out.cell (i := 0) (v := .int .i64 1) rfl
  have e1 := HB.out.cell (i := 1) (v := .int .i64 (n : Int)) rfl
  have e2 := HB.out.cell (i := 2) (v := .int .i64 8) rfl
  have e3 := HB.out.cell (i := 3) (v := .int .i64 1) rfl
  have e4 := HB.out.cell (i := 4) (v := .int .i64 0) rfl
  have e5 := HB.out.cell (i := 5) (v := .int .i64 1) rfl
  go_upto_region 8 with (first
    | (go_at_call 9; (with_reducible refine (made_any (n := n) (by omega) (by omega) _).mono ?_); rintro r w1 ⟨q, p, g, qs, rfl, T1⟩; have HB1 := Lib.hid (HB.out.up T1.up); have HT1 := Lib.hid (show ChS w w1 q p g qs n (mem0 n) from T1.base HU0.out); have HBP := Lib.hid (show bc ∉ [p, g] by have a1 := HB1.out.ne_type T1.cha.env.mem.top (by decide); have a2 := HB1.out.ne_type T1.cha.env.mem.row (by decide); simp [a1, a2]); clear T1)
    | fail)
  clear e0 e1 e2 e3 e4 e5
  have e0 := HB1.out.cell (i := 0) (v := .int .i64 1) rfl
  have e1 := HB1.out.cell (i := 1) (v := .int .i64 (n : Int)) rfl
  have e2 := HB1.out.cell (i := 2) (v := .int .i64 8) rfl
  have e3 := HB1.out.cell (i := 3) (v := .int .i64 1) rfl
  have e4 := HB1.out.cell (i := 4) (v := .int .i64 0) rfl
  have e5 := HB1.out.cell (i := 5) (v := .int .i64 1) rfl
  go_upto_region 9 with (first
    | (go_at_call 10; refine (rnewP (cfM n) HMAY.out (r0 := 4) (n := 1) rfl rfl (ch := n) (L := 6 + 9 * n) rfl HLEN.out _).mono ?_; rintro r w2 ⟨k, pr, gr, qp, qsr, qe, rfl, R2, U2, _, hpr, hgr, E2, _⟩; have HT2 := Lib.hid (ChB.new HT1.out n3 n10 (HB1.out.up U2) U2 R2 E2 hpr hgr); clear R2 U2 hpr hgr E2))
  clear e0 e1 e2 e3 e4 e5
  go_wp2_with (first
    | (go_at_call 11; (with_reducible refine (chPool HT2.out.cha).mono ?_); rintro r w' ⟨rfl, rfl⟩))
  go_loopw [10] (fun i wr => PlRel w bc q p g qs k pr gr qp qsr qe n len1 i wr) (fun i _ => len1 - (intOf i).toNat)
  case atStart => exact ⟨0, mem0 n, rfl, Nat.zero_le _, by rw [mem0_c]; decide, HT2.out⟩
  case round =>
    obtain ⟨j, s, rfl, hj, hc, T⟩ := hrel
    have HT := Lib.hid T
    have HC := Lib.hid hc
    have HJ := Lib.hid hj
    clear T hc HT2 HT1 HB HB1
    have j0 : (0 : Int) ≤ (j : Int) := Int.natCast_nonneg _
    by_cases hlt : j < len1
    rotate_left
    · have j1 : ¬ (j : Int) < (len1 : Int) := by omega
      go_upto_region 27 with fail
      have HLS := Lib.hid (show lstOf n 0 6 (s.xs.set 1 1) = lstOf n 0 6 s.xs from lst_set1)
      obtain ⟨SP, hSP⟩ : ∃ SP, lstOf n 0 6 s.xs = SP := ⟨_, rfl⟩
      have HSP := Lib.hid hSP
      clear hSP
      have HZ := Lib.hid (HT.out.ups (up_drew wr))
      clear HT
      have HQ := Lib.hid (show wr.drew.cell? ⟨k, 7, none⟩ = some (.pointer (some ⟨qp, 0, none⟩)) from HZ.out.rp.obj.cell rfl)
      go_region_held3 (fun w' => w'.cell? ⟨k, 7, none⟩ = some (.pointer (some ⟨qp, 0, none⟩)))
        ((with_reducible exact HQ.out))
        (first
          | (go_at_call 11; (with_reducible refine (chPool HZ.out.cha).mono ?_); rintro r w' ⟨rfl, rfl⟩)
          | (go_at_call 25; (with_reducible refine (slist HZ.out.cha.env).mono ?_); rintro r wa ⟨va, rfl, Ja, Fa, Ua⟩; rw [HSP.out] at Ja; obtain ⟨Aa, Na, ca, rfl⟩ := shapeI Ja; have HJA := Lib.hid Ja; (try replace HJB := Lib.hid (HJB.out.up Ua)); replace HQ := Lib.hid (Ua.kept HQ.out); replace HZ := Lib.hid (HZ.out.ups Ua); clear Ja Fa Ua)
          | (go_at_call 26; (with_reducible refine (rlist HZ.out.rp.env).mono ?_); rintro r wb ⟨vb, rfl, Jb, Fb, Ub⟩; rw [HLS.out, HSP.out] at Jb; obtain ⟨Ab, Nb, cb, rfl⟩ := shapeI Jb; have HJB := Lib.hid Jb; (try replace HJA := Lib.hid (HJA.out.up Ub)); replace HQ := Lib.hid (Ub.kept HQ.out); replace HZ := Lib.hid (HZ.out.ups Ub); clear Jb Fb Ub)
          | (go_at_call 18; (with_reducible refine (same_in HJA.out.rd HJB.out.rd).mono ?_); rintro r wc ⟨rfl, Uc⟩; replace HQ := Lib.hid (Uc.kept HQ.out); replace HZ := Lib.hid (HZ.out.ups Uc); clear Uc))
      all_goals
        go_wp2_with fail
        go_ret
        exact ⟨rfl, HZ.out.up⟩
    have j1 : (j : Int) < (len1 : Int) := by omega
    obtain ⟨bl, off, rfl, hb, c0, c1⟩ := HW1.out.two hlt
    obtain ⟨x0, hx0⟩ : ∃ x, z1 j 0 = x := ⟨_, rfl⟩
    obtain ⟨x1, hx1⟩ : ∃ x, z1 j 1 = x := ⟨_, rfl⟩
    rw [hx0] at c0
    rw [hx1] at c1
    replace c0 := HT.out.up.kept c0
    replace c1 := HT.out.up.kept c1
    have e1 := HT.out.cf.cell (i := 1) (v := .int .i64 (n : Int)) rfl
    clear hb hx0 hx1
    obtain ⟨A', hA, _, A0, A1⟩ := emod_letter x0 (n : Int) (by omega)
    obtain ⟨A, rfl⟩ : ∃ A : Nat, A' = A := ⟨A'.toNat, by omega⟩
    obtain ⟨B', hB, _, B0, B1⟩ := emod_letter x1 ((n : Int) + 1) (by omega)
    have HA := Lib.hid hA
    have HBM := Lib.hid hB
    have HN1 := Lib.hid (show ((0 : Int) < (n : Int) ∧ (n : Int) < 9223372036854775808) ∧ ((0 : Int) < (n : Int) + 1 ∧ (n : Int) + 1 < 9223372036854775808) by omega)
    obtain ⟨B, hBB⟩ : ∃ B, B' - 1 = B := ⟨_, rfl⟩
    have HAB := Lib.hid (show A < n ∧ -1 ≤ B ∧ B < n by omega)
    clear hA hB
    go_upto_region 14 with fail
    go_quiet (first
      | (go_at_call 12; (with_reducible exact quiet_eq (number_is HA.out HN1.out.1.1 HN1.out.1.2 _)))
      | (go_at_call 12; (with_reducible exact quiet_eq (number_is HBM.out HN1.out.2.1 HN1.out.2.2 _))))
    clear c0 c1 e1
    have HT3 := Lib.hid (HT.out.ups (Up.drewN wr nq))
    generalize wr.drewN nq = w3 at *
    try rw [hBB]
    clear B0 B1 A0 A1 HT
    have HBB := Lib.hid hBB
    clear hBB
    have HC2 := Lib.hid (show 0 ≤ s.c ∧ s.c ≤ 100000 by have := HC.out; omega)
    obtain ⟨P1, P2, P3⟩ := setS_both (s := s) (A := A) (B := B) (by have := HC2.out; omega)
    obtain ⟨s5, h5⟩ : ∃ s5, setS s 6 A B = s5 := ⟨_, rfl⟩
    rw [h5] at P1 P2
    have HS5 := Lib.hid (show (s.xs.set 1 1).set (6 + A) (B + 1) = s5.xs.set 1 1 by rw [P1, set_set1])
    have HX5 := Lib.hid P1
    have HC5 := Lib.hid P2
    have HWS := Lib.hid P3
    have HSET := Lib.hid (h5 ▸ sets_any HT3.out.cha HAB.out.1 HAB.out.2.1 HAB.out.2.2)
    clear P1 P2 P3 h5
    go_upto_region 18 with (first
      | (go_at_call 13; (with_reducible refine HSET.out.mono ?_); rintro r w4 ⟨rfl, C4, E4⟩; have HT4 := Lib.hid (HT3.out.prog C4 E4); clear C4 E4))
    have HSO := Lib.hid (Whole.new w4 40 (rseRow k (A : Int) B false))
    have HTA := Lib.hid (HT4.out.ups (Up.alloc w4 (.cells (rseRow k (A : Int) B false) 40)))
    have HEA := Lib.hid (Else.of_up (s := [pr, gr]) (Up.alloc w4 (.cells (rseRow k (A : Int) B false) 40)))
    unfold rseRow at HSO HTA HEA
    have HBS := Lib.hid (Nat.le_refl w4.heap.size)
    obtain ⟨bS, hbS⟩ : ∃ b, w4.heap.size = b := ⟨_, rfl⟩
    rw [hbS] at HSO ⊢
    have HBS := Lib.hid (show w4.heap.size ≤ bS from Nat.le_of_eq hbS)
    clear hbS
    generalize w4.alloc (.cells #[.pointer (some ⟨k, 0, none⟩), .int .i64 (A : Int), .int .i64 B, .bool false] 40) = w5 at *
    go_upto_region 19 with (first
      | (go_at_call 14; refine (rseStep HTA.out.rp HSO.out HAB.out.1 HAB.out.2.1 HAB.out.2.2).mono ?_; rintro r w6 ⟨rfl, R6, E6⟩; rw [HS5.out, HWS.out, ← HC5.out] at R6; have HT6 := Lib.hid (HT4.out.ref R6 (HEA.out.new_too E6 (fun y hy => by simp at hy; rcases hy with rfl | rfl | rfl; exact .inr HBS.out; exact .inl (by simp); exact .inl (by simp)))); clear R6 E6))
    clear HT3 HTA HEA HSO HSET
    have hlA : 6 + A < s5.xs.length := by have := (HT6.out.cha.at HAB.out.1).2; exact this
    obtain ⟨LA, hLA⟩ : ∃ LA, 6 + A = LA := ⟨_, rfl⟩
    obtain ⟨X, hX⟩ : ∃ X, (s5.xs.set 1 1).length = X := ⟨_, rfl⟩
    obtain ⟨z, hz⟩ : ∃ z, B + 1 = z := ⟨_, rfl⟩
    have hlS : LA < s.xs.length := by rw [← hLA]; rw [HX5.out, List.length_set] at hlA; exact hlA
    have hg5 : s5.xs.getD LA 0 = z := by rw [HX5.out, hLA, getD_same hlS, hz]
    have hg6 : (s5.xs.set 1 1).getD LA 0 = z := by rw [getD_other (by omega), hg5]
    have HLK := Lib.hid (show llinkN (cfM n) (A : Int) = (LA : Int) by rw [← hLA]; exact (HT6.out.cha.at HAB.out.1).1)
    have HAS := Lib.hid (show s5.has (LA : Int) from ⟨by omega, by rw [← hLA]; omega⟩)
    have HGT := Lib.hid (show s5.get (LA : Int) = z by rw [get_at, hg5])
    have HLOOK := Lib.hid (show LA < (s5.xs.set 1 1).length ∧ (s5.xs.set 1 1).length = X ∧ (s5.xs.set 1 1).getD LA 0 = z from ⟨by rw [List.length_set, ← hLA]; exact hlA, hX, hg6⟩)
    have g3 : (0 : Int) ≤ (LA : Int) := Int.natCast_nonneg _
    have g4 : (LA : Int) < (X : Int) := by have := HLOOK.out.1; have := HLOOK.out.2.1; omega
    obtain ⟨SB, hSB⟩ : ∃ SB, walkL n 6 s5.xs n B = SB := ⟨_, rfl⟩
    have HSB := Lib.hid (show walkL n 6 s5.xs n B = SB ∧ walkL n 6 (s5.xs.set 1 1) n B = SB from ⟨hSB, by rw [walk_set1, hSB]⟩)
    clear hLA hX hz hlA hlS hg5 hg6 hSB
    have HZ := Lib.hid (HT6.out.ups (up_drew w6))
    have HQ := Lib.hid (HZ.out.look HLOOK.out.2.1 HLOOK.out.1 HLOOK.out.2.2 (Up.refl _))
    clear HT4 HT6
    go_region_held3 (fun w' => w'.cell? ⟨bc, 0, none⟩ = some (.int .i64 1) ∧ w'.cell? ⟨bc, 1, none⟩ = some (.int .i64 (n : Int)) ∧ w'.cell? ⟨bc, 2, none⟩ = some (.int .i64 8) ∧ w'.cell? ⟨bc, 3, none⟩ = some (.int .i64 1) ∧ w'.cell? ⟨bc, 4, none⟩ = some (.int .i64 0) ∧ w'.cell? ⟨bc, 5, none⟩ = some (.int .i64 1) ∧ w'.cell? ⟨k, 6, none⟩ = some (.pointer (some ⟨pr, 0, none⟩)) ∧ w'.cell? ⟨pr, 0, none⟩ = some (.slice (some ⟨gr, 0, none⟩) X X) ∧ w'.cell? ⟨gr, LA, none⟩ = some (.int .u64 z))
      ((with_reducible exact HQ.out))
      (first
        | (go_at_call 16; (with_reducible refine (link_is (c := cfM n) HLK.out _).mono ?_); rintro r wa ⟨rfl, Ua⟩; replace HZ := Lib.hid (HZ.out.ups Ua); replace HQ := Lib.hid (HZ.out.look HLOOK.out.2.1 HLOOK.out.1 HLOOK.out.2.2 (Up.refl _)); clear Ua)
        | (go_at_call 17; (with_reducible refine (rlinkat_to (cfM n) HLK.out _).mono ?_); rintro r wa ⟨rfl, Ua⟩; replace HZ := Lib.hid (HZ.out.ups Ua); replace HQ := Lib.hid (HZ.out.look HLOOK.out.2.1 HLOOK.out.1 HLOOK.out.2.2 (Up.refl _)); clear Ua)
        | (go_at_call 15; (with_reducible refine (peek_to HZ.out.cha.env.mem HAS.out HGT.out).mono ?_); rintro r w' ⟨rfl, rfl⟩)
        | (go_at_call 19; (with_reducible refine (chList HZ.out.cha HAB.out.2.1 HAB.out.2.2).mono ?_); rintro r wa ⟨va, rfl, Ja, Fa, Ua⟩; rw [HSB.out.1] at Ja; obtain ⟨Aa, Na, ca, rfl⟩ := shapeI Ja; have HJA := Lib.hid Ja; (try replace HJB := Lib.hid (HJB.out.up Ua)); replace HZ := Lib.hid (HZ.out.ups Ua); replace HQ := Lib.hid (HZ.out.look HLOOK.out.2.1 HLOOK.out.1 HLOOK.out.2.2 (Up.refl _)); clear Ja Fa Ua)
        | (go_at_call 20; (with_reducible refine (rBehind HZ.out.rp HAB.out.2.1 HAB.out.2.2).mono ?_); rintro r wb ⟨vb, rfl, Jb, Fb, Ub⟩; rw [HSB.out.2] at Jb; obtain ⟨Ab, Nb, cb, rfl⟩ := shapeI Jb; have HJB := Lib.hid Jb; (try replace HJA := Lib.hid (HJA.out.up Ub)); replace HZ := Lib.hid (HZ.out.ups Ub); replace HQ := Lib.hid (HZ.out.look HLOOK.out.2.1 HLOOK.out.1 HLOOK.out.2.2 (Up.refl _)); clear Jb Fb Ub)
        | (go_at_call 18; (with_reducible refine (same_in HJA.out.rd HJB.out.rd).mono ?_); rintro r wc ⟨rfl, Uc⟩; replace HZ := Lib.hid (HZ.out.ups Uc); replace HQ := Lib.hid (HZ.out.look HLOOK.out.2.1 HLOOK.out.1 HLOOK.out.2.2 (Up.refl _)); clear Uc))
    all_goals
      clear HQ HJA HJB
      obtain ⟨S, hS⟩ : ∃ S, walkL n 6 s5.xs n (A : Int) = S := ⟨_, rfl⟩
      have HSS := Lib.hid (show walkL n 6 (s5.xs.set 1 1) n (A : Int) = S by rw [walk_set1, hS])
      have HSL := Lib.hid (show S.length ≤ n by rw [← hS]; exact walkL_len _ _)
      have HCC := Lib.hid (show 0 ≤ s5.c ∧ s5.c ≤ 1000000 by have := HC2.out; have := HC5.out; omega)
      have HWK := Lib.hid (walks_any HZ.out.cha HAB.out.1 (by omega) HCC.out hS (m := (S.length : Int)) rfl)
      clear hS
      go_upto_region 22 with (first
        | (go_at_call 21; (with_reducible refine HWK.out.mono ?_); rintro r w8 ⟨v8, s8, rfl, J8, F8, C8, hx8, hc8, E8⟩; obtain ⟨A8, N8, c8, rfl⟩ := shapeI J8; have HT8 := Lib.hid (HZ.out.prog C8 E8); have HJ8 := Lib.hid J8; have HX8' := Lib.hid hx8; have HC8 := Lib.hid hc8; clear J8 F8 C8 hx8 hc8 E8))
      clear HZ HWK
      go_wp2_with (first
        | (go_at_call 22; refine (rwkNew (i := A) w8 k).mono ?_; rintro r w9 ⟨b9, v9, rfl, M9, hb9, F9, U9⟩; have HR9 := Lib.hid (RWkS.new (HT8.out.rp.up U9) U9 M9 hb9 F9 HAB.out.1 HSS.out); clear M9 hb9 F9 U9))
      go_loopw [15] (fun st wx => RWkAt w8 k pr gr qp qsr qe (cfM n) 6 n (s5.xs.set 1 1) s5.c S b9 st wx) (fun st _ => (intOf st).toNat)
      case atStart => exact ⟨0, v9, [A], false, by simp, HR9.out⟩
      case round =>
        obtain ⟨i, vi, Li, fin, rfl, Xi⟩ := hrel
        have HXI := Lib.hid Xi
        have hi := Xi.len HSL.out
        obtain ⟨st, hst⟩ : ∃ st, (S.length : Int) - (i : Int) = st := ⟨_, rfl⟩
        have hsl := HSL.out
        rw [hst]
        have HST := Lib.hid hst
        cases fin
        · have hgo := (Xi.go rfl)
          have hle : Li.length ≤ S.length := by rw [← hgo.1.eq, List.length_append]; omega
          have hle2 := hgo.2
          have s1 : 1 ≤ st := by omega
          have s2 : st ≤ 10 := by omega
          clear Xi hgo hle hle2 hst hsl
          go_wp2_with (first
            | (go_at_call 23; (with_reducible refine (HXI.out.step HCC.out (by omega)).mono ?_); rintro r wy ⟨rfl, vy, Ly, fy, Xy⟩; have HXY := Lib.hid Xy; clear Xy))
          go_roundw
          case rel => exact ⟨i + 1, vy, Ly, fy, by have := HST.out; congr 1; omega, HXY.out⟩
          case measure => simp [intOf]; omega
        · obtain ⟨hL, hLi⟩ := Xi.end_ rfl
          have h0 : st = 0 := by rw [← hst, ← hLi, hL]; omega
          subst h0
          obtain ⟨CN, hCN⟩ : ∃ CN, s8.c = CN := ⟨_, rfl⟩
          have HCN := Lib.hid hCN
          have ecn : s5.c + (i : Int) = CN := by rw [← hCN, HC8.out, ← hLi, hL]
          have HTX := Lib.hid (show ChB w _ bc q p g qs k pr gr qp qsr qe n s8 (s8.xs.set 1 1) CN from by
            have h := HT8.out.ref Xi.rp Xi.he
            rw [ecn, ← HX8'.out] at h
            exact h)
          have HJX := Lib.hid (HJ8.out.else Xi.he (fun y hy => by simp at hy; rcases hy with rfl | rfl; exact ints_off HJ8.out HT8.out.rp.env.mem.top (by decide); exact ints_off HJ8.out HT8.out.rp.env.mem.row (by decide)))
          have HMX := Lib.hid (show RWkM _ b9 k vi S true from hL ▸ Xi.mach)
          obtain ⟨Ai, Ni, ci, rfl⟩ := shapeI HMX.out.ints
          have HRX := Lib.hid (show s8.c = CN ∧ s8.c = s5.c + S.length from ⟨hCN, HC8.out⟩)
          clear Xi hi hst hsl hL hLi hCN ecn
          go_upto_region 25 with (first
            | (go_at_call 23; (with_reducible refine (rwkStep_no HMX.out).mono ?_); rintro r w' ⟨rfl, rfl⟩))
          have HLK2 := Lib.hid (show ∀ (wp wq : World), ChB w wp bc q p g qs k pr gr qp qsr qe n s8 (s8.xs.set 1 1) CN → RWkM wp b9 k (.slice Ai Ni ci) S true → Up wp wq → wq.cell? ⟨b9, 1, none⟩ = some (.slice Ai Ni ci) ∧ wq.cell? ⟨k, 6, none⟩ = some (.pointer (some ⟨pr, 0, none⟩)) ∧ wq.cell? ⟨pr, 1, none⟩ = some (.int .i64 CN) from
            fun _ _ T M u => ⟨u.kept (M.row.cell rfl), u.kept (T.rp.obj.cell rfl), u.kept T.rp.env.mem.cells.2⟩)
          have HQ := Lib.hid (HLK2.out _ _ HTX.out HMX.out (up_drew _))
          have HZ := Lib.hid (HTX.out.ups (up_drew _))
          have HM := Lib.hid (HMX.out.up (up_drew _))
          have HJ2 := Lib.hid (HJX.out.up (up_drew _))
          clear HTX HMX HJX
          go_region_held3 (fun w' => w'.cell? ⟨b9, 1, none⟩ = some (.slice Ai Ni ci) ∧ w'.cell? ⟨k, 6, none⟩ = some (.pointer (some ⟨pr, 0, none⟩)) ∧ w'.cell? ⟨pr, 1, none⟩ = some (.int .i64 CN))
            ((with_reducible exact HQ.out))
            (first
              | (go_at_call 18; (with_reducible refine (same_in HJ2.out.rd HM.out.ints.rd).mono ?_); rintro r wc ⟨rfl, Uc⟩; replace HQ := Lib.hid (HLK2.out _ _ HZ.out HM.out Uc); replace HZ := Lib.hid (HZ.out.ups Uc); clear Uc)
              | (go_at_call 24; (with_reducible refine (count_to HZ.out.cha.env.mem HCN.out).mono ?_); rintro r w' ⟨rfl, rfl⟩))
          all_goals
            go_wp2_with fail
            go_roundw
            case rel => exact ⟨j + 1, s8, by go_num, by omega, by have h1 := HC.out; have h2 := HC5.out; have h3 := HRX.out.2; have h4 := HSL.out; omega, by rw [HRX.out.1]; exact HZ.out⟩
            case measure => simp [intOf]; omega

set_option maxRecDepth 100000 in
theorem lifted (os : Os) (started : os.Started) (H : Type) (enc : TypeId × Value → H) :
    ReturnsInHanded {} Try.checked os 3 .any (Rows.chainPlaysSpec.pre6 enc Try.prog Try.f3 Rows.chainPlaysRow.domain false) (Rows.chainPlaysSpec.post enc Try.prog Try.f3 false true false false) := by
  refine returnsInHanded_of_change (C := Try.checked) own started (by kernel_rfl) Try.func3
    (ChangeSpec.witness6 (enc := enc) (C := Try.checked) false ⟨#[], #[.int .i64 0, .slice none 0 0], []⟩ 8 (by kernel_rfl) (by kernel_rfl) (by kernel_rfl) (by kernel_rfl)) ?_
  intro W base args ds gs before hval0 hW hcnd _
  have hval : ∀ (j : Nat) t v, Try.f3.params[j]? = some t → args[j]? = some v → Value.okWide Try.prog W .any base t v := hval0
  have hW' := hW
  obtain ⟨p, q, hA0, hV, rfl, hfz, hnd⟩ := hW
  have hA : DataW.TrodAll enc Try.prog W 0 (fun _ => true) true Try.f3.params.toList args.toList ds p := hA0
  rw [Try.params3] at hA hval
  obtain ⟨v0, vs0, d0, ds0, p0, q0, hargs, rfl, rfl, h0, r0⟩ := trodAll_cons hA
  obtain ⟨v1, vs1, d1, ds1, p1, q1, rfl, rfl, rfl, h1, r1⟩ := trodAll_cons r0
  obtain ⟨rfl, rfl, rfl⟩ := trodAll_nil r1
  obtain rfl : args = #[v0, v1] := by cases args; simp_all
  obtain ⟨rfl, rfl⟩ := trodVars_none hV
  have k0 := h0
  have lt0 : ∀ x ∈ p0, x.block < W.heap.size := by obtain ⟨m, hm⟩ := k0; exact DataW.trod_lt m _ _ _ hm
  obtain ⟨a0, rfl, rfl, rfl, w0⟩ := open_int Try.underlying3 (hval 0 3 v0 rfl rfl) h0
  have k1 := h1
  have lt1 : ∀ x ∈ p1, x.block < W.heap.size := by obtain ⟨m, hm⟩ := k1; exact DataW.trod_lt m _ _ _ hm
  obtain ⟨a1, len1, cap1, z1, rfl, w1⟩ := open_arrs (ks := [.i64, .i64]) (k := .i64) Try.underlying22 Try.underlying36 (by kernel_rfl) (by kernel_rfl) rfl Try.underlying3 (hval 1 22 v1 rfl rfl) h1
  clear hA0 hval0
  refine (walk a0 a1 len1 cap1 z1 W w0 w1).mono fun e W' ⟨he, bel⟩ => ?_
  subst he
  exact ⟨_, rfl, _, _, _, [], _, [], hW', trodAll_mk1 (shut_bool Try.underlying4 _), (trodAll_cons_mk (Below.trod laidOut (by kernel_rfl) (of_decide_eq_true (by kernel_rfl)) k0 bel lt0) (trodAll_cons_mk (Below.trod laidOut (by kernel_rfl) (of_decide_eq_true (by kernel_rfl)) k1 bel lt1) trodAll_mk0)), rfl, Below.frame bel _, fun h => by cases h⟩

theorem over : Rows.chainPlaysRow.holds Try.pinned (OpenSpec.ofChange Rows.chainPlaysSpec) :=
  OpenClaim.holds_of_wide 3 Try.f3 rfl rfl rfl rfl rfl rfl rfl ⟨rfl, rfl, rfl, rfl, rfl⟩ rfl rfl rfl rfl rfl (by kernel_rfl) Try.func3 (by kernel_rfl)
    (of_decide_eq_true (by kernel_rfl)) (by unfold Func.isWrapper; first | (rw [if_pos (by decide +kernel)]; kernel_rfl) | (rw [if_neg (by decide +kernel)]; exact ⟨rfl, rfl⟩))
    (fun os started H enc _ => lifted os started H enc)

/-- THE STATEMENT -/
theorem proved : Rows.ChainPlaysSaid := over
#print axioms proved
end Go.Proofs.Yteofgnifpkcgmaa.chainPlays
