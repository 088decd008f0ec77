/-
  StackLots, proved for every n and at: a list that is pushed at once stands on the stack as it is, above what was there.
-/
import Derived.Test.YtalhbebpoohgkaaRows
import Derived.Test.YtalhbebpoohgkaaDistinct
import Derived.WalkKit
import Derived.ProofKit
import Derived.OpenShut
import Derived.ShutString
import Derived.ChangeOld
import Derived.Below
import Derived.Carry
import Derived.Lib.SmallJoins
import Derived.OwnWalk
namespace Go.Proofs.Ytalhbebpoohgkaa.stackLots
open Go.ChangeShapes Go.WideShapes Go.ChangeAt Go.RowKit Go.Joins Go.Proofs.Ytalhbebpoohgkaa W64
open Go.ChangeMaps (open_string shut_string)
set_option linter.unusedVariables false

theorem own : ownKnob Try.prog.godebug = none := by kernel_rfl
theorem laidOut : laidOutB Try.prog = true := by kernel_rfl

/-- The first list's items as they come, and the others. -/
def av (n c : Nat) : List Nat := (List.range c).map (fun i => (i * 7 + 3) % n)
def bv (A : List Nat) (k : Nat) : List Nat := (List.range k).filter (fun i => decide (i ∉ A))
theorem av_succ (n k : Nat) : av n (k + 1) = av n k ++ [(k * 7 + 3) % n] := by unfold av; rw [List.range_succ]; simp
theorem bv_in {A : List Nat} {k : Nat} (h : k ∈ A) : bv A (k + 1) = bv A k := by unfold bv; rw [List.range_succ]; simp [h]
theorem bv_out {A : List Nat} {k : Nat} (h : k ∉ A) : bv A (k + 1) = bv A k ++ [k] := by unfold bv; rw [List.range_succ]; simp [h]
theorem av_len (n c : Nat) : (av n c).length = c := by simp [av]
theorem bv_len (A : List Nat) (k : Nat) : (bv A k).length ≤ k := by have := List.length_filter_le (fun i => decide (i ∉ A)) (List.range k); simpa [bv] using this
theorem av_lt {n c x : Nat} (h : 0 < n) (hx : x ∈ av n c) : x < n := by
  obtain ⟨i, _, rfl⟩ := List.mem_map.1 hx
  exact Nat.mod_lt _ h
theorem nodup_count {l : List Nat} (h : l.Nodup) (x : Nat) : l.count x = if x ∈ l then 1 else 0 := by
  split
  · rename_i hx
    have h1 := List.nodup_iff_count.1 h x
    have h2 := List.count_pos_iff.2 hx
    omega
  · rename_i hx
    exact List.count_eq_zero_of_not_mem hx
theorem bv_nodup (A : List Nat) (k : Nat) : (bv A k).Nodup := List.Pairwise.filter _ List.nodup_range
theorem bv_mem {A : List Nat} {k x : Nat} : x ∈ bv A k ↔ x < k ∧ x ∉ A := by simp [bv]
theorem lots_count {n c : Nat} (h : 0 < n) (x : Nat) : (dd (av n c) ++ bv (av n c) n).count x = if x < n then 1 else 0 := by
  rw [List.count_append, nodup_count (dd_nodup _), nodup_count (bv_nodup _ _)]
  by_cases h1 : x ∈ av n c
  · have := av_lt h h1
    rw [if_pos (dd_mem.2 h1), if_neg (fun h => (bv_mem.1 h).2 h1), if_pos this]
  · rw [if_neg (fun h => h1 (dd_mem.1 h))]
    by_cases h2 : x < n
    · rw [if_pos (bv_mem.2 ⟨h2, h1⟩), if_pos h2]
    · rw [if_neg (fun h => h2 (bv_mem.1 h).1), if_neg h2]
theorem lots_ne {n c : Nat} (h0 : 1 ≤ c) (h1 : c < n) : dd (av n c) ≠ [] ∧ bv (av n c) n ≠ [] := by
  refine ⟨fun e => ?_, fun e => ?_⟩
  · have : 3 % n ∈ dd (av n c) := dd_mem.2 (List.mem_map.2 ⟨0, by simp; omega, by simp⟩)
    rw [e] at this; simp at this
  · have h := Stk.all_once (l := dd (av n c) ++ bv (av n c) n) (n := n) (lots_count (by omega))
    have := h.1
    rw [e] at this
    have h2 := dd_len (av n c)
    rw [av_len] at h2
    simp at this; omega
def L1 (w : World) (n c : Nat) (v i : Value) (wr : World) : Prop := ∃ k : Nat, k ≤ n ∧ i = .int .i64 k ∧ Ints wr v (I (av n (min k c))) ∧ Fresh w v ∧ Up w wr
def L2 (w : World) (A : List Nat) (n : Nat) (v i : Value) (wr : World) : Prop := ∃ k : Nat, k ≤ n ∧ i = .int .i64 k ∧ Ints wr v (I (bv A k)) ∧ Fresh w v ∧ Up w wr
theorem fresh_nil (w : World) : Fresh w (.slice none 0 0) := fun k hk => by simp [Value.ownBlock] at hk
theorem away_of {w : World} {v : Value} {p g : Nat} (F : Fresh w v) (hp : p < w.heap.size) (hg : g < w.heap.size) : Away v [p, g] := by
  intro k hk e
  have := F k e
  simp at hk
  rcases hk with rfl | rfl <;> omega
theorem fresh_old {a b : World} {v : Value} (F : Fresh b v) (h : a.heap.size ≤ b.heap.size) : Fresh a v := fun k hk => Nat.le_trans h (F k hk)

set_option maxRecDepth 100000 in
set_option maxHeartbeats 1000000 in
theorem walk (a0 : Int) (a1 : Int) (w : World) (w0 : (Lit.int .i64 a0).wf = true) (w1 : (Lit.int .i64 a1).wf = true) :
    Calls Try.prog 6 #[.int .i64 a0, .int .i64 a1] w fun e w' => e = .returned (.bool true) ∧ Up w w' := by
  clear w0 w1
  obtain ⟨x, hx, _, x0, x1⟩ := emod_letter a0 20 (by decide)
  obtain ⟨y, hy, _, y0, y1⟩ := emod_letter a1 (2 + x - 1) (by omega)
  obtain ⟨n, hn⟩ : ∃ n : Nat, 2 + x = n := ⟨(2 + x).toNat, by omega⟩
  obtain ⟨c, hc⟩ : ∃ c : Nat, 1 + y = c := ⟨(1 + y).toNat, by omega⟩
  have HX := Lib.hid hx
  have HY := Lib.hid hy
  have n0 : 2 ≤ n := by omega
  have n1 : n ≤ 21 := by omega
  have n2 : n ≤ 400 := by omega
  have c0 : 1 ≤ c := by omega
  have c1 : c < n := by omega
  have HN := Lib.hid hn
  have HC := Lib.hid hc
  clear hx hy hn hc
  have hd0 : 0 < 2 + x - 1 := by omega
  have hd1 : 2 + x - 1 < 9223372036854775808 := by omega
  go_enter Try.func6, Try.ntmps6
  go_upto_region 9 with (first
    | (go_at_call 9; refine (first_any _).mono ?_; rintro e w1 ⟨rfl, U1⟩)
    | (go_at_call 10; (with_reducible refine (number_is HX.out (by decide) (by decide) _).mono ?_); rintro e w' ⟨rfl, rfl⟩)
    | (go_at_call 10; (with_reducible refine (number_is HY.out hd0 hd1 _).mono ?_); rintro e w' ⟨rfl, rfl⟩)
    | (go_at_call 11; refine (table_in n HN.out (by omega) n2 _).mono ?_; rintro e w2 ⟨p, g, q, rfl, E2, hp, hg, hq, U2⟩; have HE2 := Lib.hid E2; clear E2))
  have gp := HE2.out.mem.top.lt
  have gg := HE2.out.mem.row.lt
  go_wp2_with fail
  go_loopw [10, 12] (fun v i wr => L1 w2 n c v i wr) (fun _ i _ => n - (intOf i).toNat)
  case atStart => exact ⟨0, Nat.zero_le _, rfl, by rw [Nat.zero_min]; exact Ints.nil _, fresh_nil _, Up.refl _⟩
  case round =>
    obtain ⟨k, hk, rfl, J, F, hu⟩ := hrel
    have HJ := Lib.hid J
    have HF := Lib.hid F
    have HU := Lib.hid hu
    clear J F hu
    have i0 : (0 : Int) ≤ (k : Int) := Int.natCast_nonneg _
    by_cases hlt : k < n
    · have i1 : (k : Int) < 2 + x := by have := HN.out; omega
      by_cases hkc : k < c
      · have i2 : (k : Int) < 1 + y := by have := HC.out; omega
        have htm : ((k : Int) * 7 + 3).tmod (2 + x) = (((k * 7 + 3) % n : Nat) : Int) := by
          rw [HN.out, Int.tmod_eq_emod_of_nonneg (by omega)]; push_cast; rfl
        have hne : ¬ (2 + x = 0) := by omega
        have hs : av n (min (k + 1) c) = av n (min k c) ++ [(k * 7 + 3) % n] := by
          rw [show min (k + 1) c = k + 1 by omega, show min k c = k by omega]; exact av_succ n k
        have HS := Lib.hid hs
        clear hs
        go_wp2_with (at_builtin; refine wpList_app rfl _ _ rfl rfl rfl (HJ.out.up (Up.alloc _ _)) (rd_one _ (((k * 7 + 3) % n : Nat) : Int)) (by rw [I_len, av_len]; simp; omega) ?_; intro v' wD hD hgrow hat)
        go_roundw
        case rel =>
          refine ⟨k + 1, by omega, by go_num, ?_, ?_, ?_⟩
          · rw [HS.out, I_app]; exact hD
          · have := HU.out.size
            exact fresh_app HF.out (by simp; omega) hat
          · exact up_app (HU.out.then_alloc _) hgrow HF.out
        case measure => simp [intOf]; omega
      · have i2 : ¬ (k : Int) < 1 + y := by have := HC.out; omega
        go_wp2_with fail
        go_roundw
        case rel => exact ⟨k + 1, by omega, by go_num, by rw [show min (k + 1) c = min k c by omega]; exact HJ.out, HF.out, HU.out⟩
        case measure => simp [intOf]; omega
    · have i1 : ¬ (k : Int) < 2 + x := by have := HN.out; omega
      rw [show min k c = c by omega] at HJ
      have HLC := Lib.hid (lots_count (n := n) (c := c) (by omega))
      have HNE := Lib.hid (lots_ne c0 c1)
      obtain ⟨A, hA⟩ : ∃ A, av n c = A := ⟨_, rfl⟩
      have hAl : A.length ≤ c := by rw [← hA, av_len]; exact Nat.le_refl _
      rw [hA] at HJ HLC HNE
      clear hA
      obtain ⟨wa, rfl⟩ : ∃ wa : World, wa = wr := ⟨_, rfl⟩
      obtain ⟨Aa, capa, rfl⟩ := HJ.out.slice
      rw [I_len] at HJ HF ⊢
      go_wp2_with fail
      go_loopw [11, 13] (fun v i wr => L2 wa A n v i wr) (fun _ i _ => n - (intOf i).toNat)
      case atStart => exact ⟨0, Nat.zero_le _, rfl, Ints.nil _, fresh_nil _, Up.refl _⟩
      case round =>
        obtain ⟨k, hk, rfl, J, F, hu⟩ := hrel
        obtain ⟨wo, rfl⟩ : ∃ wo : World, wo = wr := ⟨_, rfl⟩
        have HJB := Lib.hid J
        have HFB := Lib.hid F
        have HUB := Lib.hid hu
        clear J F hu
        have hbl := bv_len A k
        have i0 : (0 : Int) ≤ (k : Int) := Int.natCast_nonneg _
        by_cases hlt : k < n
        · have i1 : (k : Int) < 2 + x := by have := HN.out; omega
          go_wp2_with fail
          go_loop [14, 15] (fun t j => ∃ m : Nat, m ≤ A.length ∧ j = .int .i64 m ∧ t = .bool (decide (k ∈ A.take m))) (fun _ j => A.length - (intOf j).toNat)
          case atStart => exact ⟨0, Nat.zero_le _, rfl, by simp⟩
          case round =>
            obtain ⟨j, hj, rfl, rfl⟩ := hrel
            have j0 : (0 : Int) ≤ (j : Int) := Int.natCast_nonneg _
            by_cases hjl : j < A.length
            · have j1 : (j : Int) < (A.length : Int) := by omega
              obtain ⟨g2, off2, rfl, hc2⟩ := HJ.out.rd.cell (j := j) (by rw [I_len]; exact hjl)
              rw [I_get hjl] at hc2
              replace hc2 := HUB.out.kept hc2
              have HM := Lib.hid (mem_take_more (x := k) hjl)
              obtain ⟨z, hz⟩ : ∃ z, A.getD j 0 = z := ⟨_, rfl⟩
              rw [hz] at hc2 HM
              clear hz
              by_cases hin : k ∈ A.take j
              · have e1 : decide (k ∈ A.take j) = true := decide_eq_true hin
                have e2 : decide (k ∈ A.take (j + 1)) = true := decide_eq_true (HM.out.2 (.inl hin))
                have E2 := Lib.hid e2
                rw [e1]
                clear e1 e2 hin
                go_wp2_with fail
                go_round
                case rel => exact ⟨j + 1, by omega, by go_num, by rw [E2.out]⟩
                case measure => simp [intOf]; omega
              · have e1 : decide (k ∈ A.take j) = false := decide_eq_false hin
                rw [e1]
                have hd : ((z : Int) == (k : Int)) = decide (k ∈ A.take (j + 1)) := by
                  by_cases c : z = k
                  · rw [decide_eq_true (HM.out.2 (.inr c)), c]; simp
                  · rw [decide_eq_false (fun h => (HM.out.1 h).elim hin c)]
                    simpa using fun h : (z : Int) = k => c (by omega)
                have HD := Lib.hid hd
                clear e1 hd hin
                go_wp2_with fail
                go_round
                case rel => exact ⟨j + 1, by omega, by go_num, by rw [← HD.out]⟩
                case measure => simp [intOf]; omega
            · have j1 : ¬ (j : Int) < (A.length : Int) := by omega
              have e : A.take j = A := List.take_of_length_le (by omega)
              rw [e]
              by_cases hin : k ∈ A
              · rw [decide_eq_true hin]
                have HX2 := Lib.hid (bv_in hin)
                go_wp2_with fail
                go_roundw
                case rel => exact ⟨k + 1, by omega, by go_num, by rw [HX2.out]; exact HJB.out, HFB.out, HUB.out⟩
                case measure => simp [intOf]; omega
              · rw [decide_eq_false hin]
                have HX2 := Lib.hid (bv_out hin)
                go_wp2_with (at_builtin; refine wpList_app rfl _ _ rfl rfl rfl (HJB.out.up (Up.alloc _ _)) (rd_one _ (k : Int)) (by rw [I_len]; simp; omega) ?_; intro v' wD hD hgrow hat)
                go_roundw
                case rel =>
                  refine ⟨k + 1, by omega, by go_num, ?_, ?_, ?_⟩
                  · rw [HX2.out, I_app]; exact hD
                  · have := HUB.out.size
                    exact fresh_app HFB.out (by simp; omega) hat
                  · exact up_app (HUB.out.then_alloc _) hgrow HFB.out
                case measure => simp [intOf]; omega
        · have i1 : ¬ (k : Int) < 2 + x := by have := HN.out; omega
          have ek : k = n := by omega
          subst ek
          obtain ⟨Ab, capb, rfl⟩ := HJB.out.slice
          rw [I_len] at HJB HFB ⊢
          have HDL := Lib.hid (dd_len A)
          obtain ⟨D, hD⟩ : ∃ D, dd A = D := ⟨_, rfl⟩
          obtain ⟨B, hB⟩ : ∃ B, bv A k = B := ⟨_, rfl⟩
          have hdA := Lib.hid hD
          rw [hD] at HLC HNE HDL
          rw [hB] at HLC HNE HJB HFB ⊢
          rw [hB] at hbl
          clear hB hD
          have HY0 := Lib.hid (sys_empty (HE2.out.up (HU.out.trans HUB.out)) (D ++ B) HLC.out)
          have bl := HDL.out
          have b0 : 0 < B.length := List.length_pos_iff.2 HNE.out.2
          have s1 := HU.out.size
          have s2 := HUB.out.size
          go_upto_region 25 with fail
          go_upto_region 26 with (first
            | (go_at_call 31; refine (distinct_in (HJ.out.rd.up HUB.out) (by omega)).mono ?_; rintro e w5 ⟨v5, rfl, J5, F5, U5⟩; rw [hdA.out] at J5; have HJ5 := Lib.hid J5; have HF5 := Lib.hid F5; have HU5 := Lib.hid U5; obtain ⟨A5, c5, rfl⟩ := J5.slice; clear J5 F5 U5))
          rw [I_len]
          rw [I_len] at HJ5 HF5
          have HA := Lib.hid (alone_to (k := (D.length : Int) + 2) (u := 0) (l := D) (rr := B) (HY0.out.up HU5.out) (by omega) rfl rfl HNE.out.1 n2 (by omega) HJ5.out.rd rfl rfl)
          go_upto_region 28 with (first
            | (go_at_call 28; (with_reducible refine HA.out.mono ?_); rintro e w6 ⟨rfl, s6, h6, hh6, Y6, E6⟩; have HY6 := Lib.hid Y6; have HH6 := Lib.hid hh6; have HE6 := Lib.hid E6; clear Y6 hh6 E6)
            | (go_at_call 18; refine (list_in HY6.out.env HY6.out.holds).mono ?_; rintro e w7 ⟨v7, rfl, J7, F7, U7⟩; rw [List.append_nil] at J7; have HJ7 := Lib.hid J7; have HU7 := Lib.hid U7; clear J7 F7 U7)
            | (go_at_call 17; refine (same_in (xs := I D) HJ7.out.rd ((HJ5.out.else HE6.out (away_of HF5.out (by omega) (by omega))).rd.up HU7.out)).mono ?_; rintro e w8 ⟨rfl, U8⟩; have HU8 := Lib.hid (HU7.out.trans U8); clear U8))
          have hs5 := HU5.out.size
          have hs6 := HE6.out.size
          have hs8 := HU8.out.size
          have HFB2 := Lib.hid (fresh_old HFB.out s1)
          have HB8 := Lib.hid (((HJB.out.up HU5.out).else HE6.out (away_of HFB2.out gp gg)).up HU8.out)
          have HD8 := Lib.hid ((HJ5.out.else HE6.out (away_of HF5.out (by omega) (by omega))).up HU8.out)
          have HY8 := Lib.hid (HY6.out.up HU8.out)
          rw [List.append_nil] at HY8
          have HA2 := Lib.hid (alone_to (k := (B.length : Int) + 2) (u := 0) (l := B) (rr := []) HY8.out (by omega) rfl (by rw [HH6.out, List.append_nil]) HNE.out.2 n2 (by omega) HB8.out.rd rfl rfl)
          have b1 : (0 : Int) < (B.length : Int) := by omega
          clear HA HY6 HJ7 HJ5 HJB HJ HY0
          go_upto_region 30 with (first
            | (go_at_call 28; (with_reducible refine HA2.out.mono ?_); rintro e w9 ⟨rfl, s9, h9, hh9, Y9, E9⟩; have HY9 := Lib.hid Y9; have HE9 := Lib.hid E9; clear Y9 hh9 E9))
          have HB9 := Lib.hid (HB8.out.else HE9.out (away_of HFB2.out gp gg))
          have HD9 := Lib.hid (HD8.out.else HE9.out (away_of HF5.out (by omega) (by omega)))
          clear HB8 HD8 HA2
          go_wp2_with (first
            | (go_at_call 18; refine (list_in HY9.out.env HY9.out.holds).mono ?_; rintro e wa1 ⟨va1, rfl, Ja1, Fa1, Ua1⟩; have HJa1 := Lib.hid Ja1; have HUa1 := Lib.hid Ua1; clear Ja1 Fa1 Ua1)
            | (at_builtin; refine wpList_appG (v := .slice none 0 0) rfl _ _ rfl rfl rfl (Ints.nil _) (HB9.out.rd.up HUa1.out) (by rw [I_len]; simp; omega) ?_; intro va2 wa2 hD2 hgrow2 hat2; have HJa2 := Lib.hid hD2; have HF2 := Lib.hid (fresh_app (fresh_nil wa1) (Nat.le_refl _) hat2); have HUa2 := Lib.hid (up_app (Up.refl wa1) hgrow2 (fresh_nil _)); clear hD2 hgrow2 hat2)
            | (at_builtin; refine wpList_appG rfl _ _ rfl rfl rfl HJa2.out ((HD9.out.rd.up HUa1.out).up HUa2.out) (by rw [List.length_append, I_len, I_len]; simp; omega) ?_; intro va3 wa3 hD3 hgrow3 hat3; have HJa3 := Lib.hid hD3; have HUa3 := Lib.hid (up_app HUa2.out hgrow3 HF2.out); clear hD3 hgrow3 hat3)
            | (go_at_call 17; refine (same_in (xs := I (B ++ D)) (HJa1.out.rd.up HUa3.out) (by rw [I_app]; exact HJa3.out.rd)).mono ?_; rintro e wa4 ⟨rfl, Ua4⟩; have HUa4 := Lib.hid ((HUa1.out.trans HUa3.out).trans Ua4); clear Ua4)
            | (go_at_call 28; refine (alone_nil (HY9.out.up HUa4.out).env).mono ?_; rintro e wa5 ⟨rfl, Ua5⟩; have HUa5 := Lib.hid (HUa4.out.trans Ua5); clear Ua5))
          go_ret
          refine ⟨rfl, Else.up_new (U1.trans U2) (s := [p, g]) ?_ ?_⟩
          · exact ((((((Else.of_up (HU.out.trans HUB.out)).up HU5.out).trans HE6.out).up HU8.out).trans HE9.out).up HUa5.out)
          · intro j hj; simp at hj; have := U1.size; omega

set_option maxRecDepth 100000 in
theorem lifted (os : Os) (started : os.Started) (H : Type) (enc : TypeId × Value → H) :
    ReturnsInHanded {} Try.checked os 6 .any (Rows.stackLotsSpec.pre6 enc Try.prog Try.f6 Rows.stackLotsRow.domain false) (Rows.stackLotsSpec.post enc Try.prog Try.f6 false true false false) := by
  refine returnsInHanded_of_change (C := Try.checked) own started (by kernel_rfl) Try.func6
    (ChangeSpec.witness6 (enc := enc) (C := Try.checked) false ⟨#[], #[.int .i64 0, .int .i64 0], []⟩ 8 (by kernel_rfl) (by kernel_rfl) (by kernel_rfl) (by kernel_rfl)) ?_
  intro W base args ds gs before hval0 hW hcnd _
  have hval : ∀ (j : Nat) t v, Try.f6.params[j]? = some t → args[j]? = some v → Value.okWide Try.prog W .any base t v := hval0
  have hW' := hW
  obtain ⟨p, q, hA0, hV, rfl, hfz, hnd⟩ := hW
  have hA : DataW.TrodAll enc Try.prog W 0 (fun _ => true) true Try.f6.params.toList args.toList ds p := hA0
  rw [Try.params6] at hA hval
  obtain ⟨v0, vs0, d0, ds0, p0, q0, hargs, rfl, rfl, h0, r0⟩ := trodAll_cons hA
  obtain ⟨v1, vs1, d1, ds1, p1, q1, rfl, rfl, rfl, h1, r1⟩ := trodAll_cons r0
  obtain ⟨rfl, rfl, rfl⟩ := trodAll_nil r1
  obtain rfl : args = #[v0, v1] := by cases args; simp_all
  obtain ⟨rfl, rfl⟩ := trodVars_none hV
  have k0 := h0
  have lt0 : ∀ x ∈ p0, x.block < W.heap.size := by obtain ⟨m, hm⟩ := k0; exact DataW.trod_lt m _ _ _ hm
  obtain ⟨a0, rfl, rfl, rfl, w0⟩ := open_int Try.underlying3 (hval 0 3 v0 rfl rfl) h0
  have k1 := h1
  have lt1 : ∀ x ∈ p1, x.block < W.heap.size := by obtain ⟨m, hm⟩ := k1; exact DataW.trod_lt m _ _ _ hm
  obtain ⟨a1, rfl, rfl, rfl, w1⟩ := open_int Try.underlying3 (hval 1 3 v1 rfl rfl) h1
  clear hA0 hval0
  refine (walk a0 a1 W w0 w1).mono fun e W' ⟨he, bel⟩ => ?_
  subst he
  exact ⟨_, rfl, _, _, _, [], _, [], hW', trodAll_mk1 (shut_bool Try.underlying4 _), (trodAll_cons_mk (Below.trod laidOut (by kernel_rfl) (of_decide_eq_true (by kernel_rfl)) k0 bel lt0) (trodAll_cons_mk (Below.trod laidOut (by kernel_rfl) (of_decide_eq_true (by kernel_rfl)) k1 bel lt1) trodAll_mk0)), rfl, Below.frame bel _, fun h => by cases h⟩

theorem over : Rows.stackLotsRow.holds Try.pinned (OpenSpec.ofChange Rows.stackLotsSpec) :=
  OpenClaim.holds_of_wide 6 Try.f6 rfl rfl rfl rfl rfl rfl rfl ⟨rfl, rfl, rfl, rfl, rfl⟩ rfl rfl rfl rfl rfl (by kernel_rfl) Try.func6 (by kernel_rfl)
    (of_decide_eq_true (by kernel_rfl)) (by unfold Func.isWrapper; first | (rw [if_pos (by decide +kernel)]; kernel_rfl) | (rw [if_neg (by decide +kernel)]; exact ⟨rfl, rfl⟩))
    (fun os started H enc _ => lifted os started H enc)

/-- THE STATEMENT -/
theorem proved : Rows.StackLotsSaid := over
#print axioms proved
end Go.Proofs.Ytalhbebpoohgkaa.stackLots
