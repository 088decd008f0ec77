/-
  LimboOnce of layer 7: each item that was retired comes out just once, never ahead of its tag and 2, as long as tags rise and now is no less than the last tag; what has not come is still there; for every list of numbers.
-/
import Derived.Test.YthajdabdiaogiaaRows
import Derived.Test.YthajdabdiaogiaaOnceMem
import Derived.WalkKit
import Derived.ProofKit
import Derived.OpenShut
import Derived.ShutString
import Derived.ChangeOld
import Derived.Below
import Derived.Carry
import Derived.Lib.SmallJoins
namespace Go.Proofs.Ythajdabdiaogiaa.limboOnce
open Go.ChangeShapes Go.WideShapes Go.ChangeAt Go.RowKit Go.Joins Go.Proofs.Ythajdabdiaogiaa W64
open Go.ChangeMaps (open_string shut_string)
set_option linter.unusedVariables false

theorem own : ownKnob Try.prog.godebug = none := by kernel_rfl
theorem laidOut : laidOutB Try.prog = true := by kernel_rfl

theorem lnew_q (w : World) : Calls Try.prog 8 #[] w fun e w' => ∃ q, e = .returned (.pointer (some ⟨q, 0, none⟩)) ∧ Mine w w' q [q] Lb.zero :=
  (lnew_mine w).mono fun _ _ ⟨he, M⟩ => ⟨_, he, M⟩
theorem wf_bounds {x : Int} (h : (Lit.int .i64 x).wf = true) : -9223372036854775808 ≤ x ∧ x ≤ 9223372036854775807 := by
  simp [Lit.wf, IntKind.min, IntKind.max, IntKind.bits, IntKind.signed] at h; omega
theorem row_wf {w : World} {a : Option Addr} {len cap : Nat} {zs : List Int} (h : IsRow .i64 w a len cap zs) {k : Nat} (hk : k < len) : (Lit.int .i64 (zs.getD k 0)).wf = true := by
  rcases h with ⟨_, rfl, _, _⟩ | ⟨x, _, hl, hm, hz, _, hw⟩
  · omega
  · exact hw _ (get_mem (by omega))

set_option maxHeartbeats 8000000 in
set_option maxRecDepth 100000 in
theorem walk (a0 : Option Addr) (len0 cap0 : Nat) (z0 : List Int) (w : World) (w0 : IsRow .i64 w a0 len0 cap0 z0) :
    Calls Try.prog 4 #[.slice a0 len0 cap0] w fun e w' => e = .returned (.bool true) ∧ Up w w' := by
  have hm := row_len w0
  unfold maxLen at hm
  have HW0 := Lib.hid w0
  clear w0
  by_cases hlen : len0 ≤ 80
  rotate_left
  · have hl2 : 80 < len0 := by omega
    go_enter Try.func4, Try.ntmps4
    go_wp2_with (first
      | (go_at_call 7; refine (first_any _).mono ?_; rintro e wA ⟨rfl, UA⟩))
    go_ret
    exact ⟨rfl, UA⟩
  have ra := run_zero80
  go_enter Try.func4, Try.ntmps4
  go_wp2_with (first
    | (go_at_call 7; refine (first_any _).mono ?_; rintro e wA ⟨rfl, UA⟩)
    | (go_at_call 8; refine (lnew_q _).mono ?_; rintro e wB ⟨q, rfl, MB⟩; have HM1 := Lib.hid MB; clear MB))
  have HUA := Lib.hid UA
  clear UA ra
  obtain ⟨bt, hbt⟩ : ∃ bt, wB.heap.size = bt := ⟨_, rfl⟩
  have HOA : OnceAt wA ((wB.alloc (.cells (row80 (fun _ => 0)) 44)).alloc (.cells (row80 (fun _ => 0)) 44)) q bt (bt + 1) [q] Lb.zero (fun _ => 0) (fun _ => 0) := by
    have hq := HM1.out.lim.lt q (by simp)
    have hA := HM1.out.up.size
    subst hbt
    refine ⟨HM1.out.then ((Up.alloc _ _).then_alloc _), (Whole.new wB _ _).alloc _, ?_, by omega, by simp; omega, by simp; omega, hA, by omega⟩
    have := Whole.new (wB.alloc (.cells (row80 (fun _ => 0)) 44)) 44 (row80 (fun _ => 0))
    simpa using this
  obtain ⟨w2, hw2⟩ : ∃ w2, (wB.alloc (.cells (row80 (fun _ => 0)) 44)).alloc (.cells (row80 (fun _ => 0)) 44) = w2 := ⟨_, rfl⟩
  rw [hw2] at HOA ⊢
  rw [hbt]
  obtain ⟨bc, hbc⟩ : ∃ bc, bt + 1 = bc := ⟨_, rfl⟩
  rw [hbc] at HOA ⊢
  have HOA := Lib.hid HOA
  clear hw2 hbt hbc
  go_loopw [5, 6, 7, 10] (fun a b c d wr => OnceRel wA q bt bc len0 a b c d wr) (fun _ _ _ d _ => len0 - (intOf d).toNat)
  case atStart => exact ⟨0, 0, 0, 0, _, _, _, _, rfl, rfl, rfl, rfl, Nat.zero_le _, HOA.out, In.zero, fun _ _ => rfl, by decide, by decide, by decide, by decide, by decide⟩
  case round =>
    obtain ⟨now, next, out, i, F, S, tg, cm, rfl, rfl, rfl, rfl, him, H⟩ := hrel
    have HH := Lib.hid H
    have now0 := H.now0
    have now1 := H.now1
    have hni := H.ni
    have hsz := H.size
    clear H
    have i0 : (0 : Int) ≤ (i : Int) := Int.natCast_nonneg _
    by_cases hlt : i < len0
    · have i1 : (i : Int) < (len0 : Int) := by omega
      obtain ⟨b, off, rfl, hb, hc⟩ := row_cell HW0.out hlt
      obtain ⟨y0, y1⟩ := wf_bounds (row_wf HW0.out hlt)
      replace hc := (HUA.out.trans HH.out.at_.mine.up).kept hc
      obtain ⟨x, hx⟩ : ∃ x, z0.getD i 0 = x := ⟨_, rfl⟩
      rw [hx] at hc y0 y1
      clear hx
      obtain ⟨d, hd, _, d0, d1⟩ := emod_letter x 3 (by decide)
      obtain ⟨e, he, _, e0, e1⟩ := emod_letter (x.tdiv 3) 3 (by decide)
      have HD := Lib.hid hd
      have HE := Lib.hid he
      clear hd he
      have HS8 := Lib.hid (show S.size ≤ 8192 by omega)
      have HLA0 := Lib.hid HH.out.last
      have HLAd := Lib.hid (show S.last ≤ now + d by have := HH.out.last; omega)
      have HOK := Lib.hid HH.out.at_.mine.lim.ok
      by_cases hez : e = 0
      · subst hez
        obtain ⟨S5, hS5⟩ : ∃ S5, S.rest (now + d) = S5 := ⟨_, rfl⟩
        obtain ⟨got, hgot⟩ : ∃ got, S.outs (now + d) = got := ⟨_, rfl⟩
        obtain ⟨m, hlm⟩ : ∃ m, got.length = m := ⟨_, rfl⟩
        have HRS := Lib.hid hS5
        have HGO := Lib.hid hgot
        have HLEN := Lib.hid hlm
        have HG := Lib.hid (HH.out.in_.ready HOK.out (now + d))
        have HHI := Lib.hid HH.out.hi
        have hro := Lb.rest_ok HOK.out (now + d)
        rw [hS5, hgot] at HG hro
        rw [hlm] at hro
        have HSZ := Lib.hid (show S5.size + m + out = next by have := hro.2.2.1; omega)
        have HLA := Lib.hid (show S5.last ≤ now + d by rw [hro.2.1]; exact HLAd.out)
        have hm80 : m ≤ 80 := by have := HSZ.out; omega
        clear hS5 hgot hlm hro
        go_wp2_with (first
          | (go_at_call 12; (with_reducible refine (number_is HD.out (by decide) (by decide) _).mono ?_); rintro e w' ⟨rfl, rfl⟩)
          | (go_at_call 12; (with_reducible refine (number_is HE.out (by decide) (by decide) _).mono ?_); rintro e w' ⟨rfl, rfl⟩)
          | (go_at_call 16; (with_reducible refine (lready_to HH.out.at_.mine.lim HS8.out HRS.out HGO.out HLEN.out).mono ?_); rintro e w6 ⟨A5, c5, rfl, T5⟩; obtain ⟨F5, O6, J6, A6⟩ := HH.out.at_.took T5; clear T5))
        have HO6 := Lib.hid O6
        have HJ6 := Lib.hid J6
        have HA6 := Lib.hid A6
        clear O6 J6 A6
        have hn80 : next ≤ 80 := by omega
        go_loopw [7, 14] (fun a b wr => InRel wA q bt bc F5 S5 tg (now + d) (next) out got (.slice A5 m c5) a b wr) (fun _ b _ => m - (intOf b).toNat)
        case atStart => exact ⟨0, cm, rfl, rfl, HO6.out, HG.out, HHI.out, HJ6.out, Nat.zero_le _⟩
        case round =>
          obtain ⟨j, cm2, rfl, rfl, I⟩ := hrel
          have HI := Lib.hid I
          have hj := I.le
          have j0 : (0 : Int) ≤ (j : Int) := Int.natCast_nonneg _
          clear I
          by_cases hjl : j < m
          · have j1 : (j : Int) < (m : Int) := by omega
            have hjl2 : j < got.length := by rw [HLEN.out]; exact hjl
            obtain ⟨g, off2, hA, hc2⟩ := HI.out.ints.rd.cell hjl2
            obtain ⟨x2, hx2⟩ : ∃ x2, got.getD j 0 = x2 := ⟨_, rfl⟩
            obtain ⟨l0, l1, l2, l3, l4⟩ := HI.out.look hjl2 hx2
            rw [hx2] at hc2
            obtain ⟨x, rfl⟩ : ∃ x : Nat, x2 = x := ⟨x2.toNat, by omega⟩
            rw [show ((x : Int)).toNat = x by simp] at l2 l3 l4
            obtain ⟨y1, y2, y3, y4⟩ := HI.out.at_.cells (x := x) (by omega)
            rw [l3] at y2
            have HST := Lib.hid (HI.out.step hjl2 hx2 HA6.out)
            have HHA := Lib.hid hA
            obtain ⟨tx, htx⟩ : ∃ tx, tg x = tx := ⟨_, rfl⟩
            rw [htx] at y1 l2 l4
            have p1 : ¬ (x : Int) < 0 := by omega
            have p2 : ¬ (next : Int) ≤ (x : Int) := by omega
            have p3 : ¬ now + d < tx + 2 := by omega
            have p4 : (x : Int) < 80 := by omega
            have q1 : 0 ≤ tx := l4
            have q2 : tx ≤ 1000 := by omega
            have o1 : (0 : Int) ≤ ((out + j : Nat) : Int) := Int.natCast_nonneg _
            have o2 : ((out + j : Nat) : Int) ≤ 1000 := by omega
            subst hA
            clear hx2 l3 htx hjl2
            go_wp2_with fail
            go_roundw
            case rel => exact ⟨j + 1, _, by go_num, by go_num, HST.out⟩
            case measure => simp [intOf]; omega
          · have j1 : ¬ (j : Int) < (m : Int) := by omega
            obtain rfl : j = m := by have := HLEN.out; omega
            have HGD := Lib.hid (show Got S5 [] (now + d) (next) tg cm2 by have := HI.out.gt; rw [List.drop_of_length_le (by rw [HLEN.out]; omega)] at this; exact this)
            have HLE := Lib.hid (show S5.size ≤ 8192 by have := HSZ.out; omega)
            obtain ⟨L, hL⟩ : ∃ L, S5.size = L := ⟨_, rfl⟩
            have HL := Lib.hid hL
            have hL8 : L ≤ 8192 := by have := HLE.out; omega
            have hLs : (L : Int) + (out + j : Nat) = (next : Int) := by have := HSZ.out; omega
            have hLe : ((L : Int) == (next : Int) - ((out + j : Nat) : Int)) = true := by simp; omega
            have o1 : (0 : Int) ≤ ((out + j : Nat) : Int) := Int.natCast_nonneg _
            have o2 : ((out + j : Nat) : Int) ≤ 1000 := by omega
            have o3 : (next : Int) ≤ 1000 := by omega
            have o4 : 0 ≤ (next : Int) := by omega
            have HSR := Lib.hid (show S5.size + (out + j) = next by have := HSZ.out; omega)
            clear hL hLs
            go_wp2_with (first
              | (go_at_call 20; (with_reducible refine (llen_to HI.out.at_.mine.lim HL.out hL8).mono ?_); rintro e w7 ⟨rfl, U7⟩; have HU7 := Lib.hid U7; clear U7))
            go_roundw
            case rel => exact ⟨now + d, next, out + j, i + 1, F5, S5, tg, cm2, rfl, by go_num, rfl, by go_num, by omega, HI.out.at_.then HU7.out, HGD.out.done, HI.out.hi, HLA.out, by omega, by omega, by omega, HSR.out⟩
            case measure => simp [intOf]; omega
      · have hez2 : (e == 0) = false := by simpa using hez
        obtain ⟨k, hk⟩ : ∃ k : Nat, (now + d) % 3 = k := ⟨((now + d) % 3).toNat, by omega⟩
        have hk3 : k < 3 := by omega
        have HK := Lib.hid hk
        obtain ⟨S5, hS5⟩ : ∃ S5, S.retire k (now + d) [(next : Int)] = S5 := ⟨_, rfl⟩
        obtain ⟨got, hgot⟩ : ∃ got, S.taken k (now + d) = got := ⟨_, rfl⟩
        obtain ⟨m, hlm⟩ : ∃ m, got.length = m := ⟨_, rfl⟩
        have HRS := Lib.hid hS5
        have HGO := Lib.hid hgot
        have HLEN := Lib.hid hlm
        have HG := Lib.hid (HH.out.in_.retire HOK.out hk3 hk HLAd.out (HH.out.hi next (Nat.le_refl _)))
        have HHI := Lib.hid (show ∀ j, next + 1 ≤ j → cm j = 0 from fun j hj => HH.out.hi j (by omega))
        have hro := Lb.size_retire (S := S) hk3 (now + d) [(next : Int)]
        rw [hS5, hgot] at HG hro
        rw [hlm] at hro
        have HSZ := Lib.hid (show S5.size + m + out = next + 1 by simp at hro; omega)
        have HLA := Lib.hid (show S5.last ≤ now + d by rw [← hS5]; unfold Lb.retire; split <;> exact Int.le_refl _)
        have HS9 := Lib.hid (show S.size + 1 ≤ 8192 by omega)
        have hm80 : m ≤ 80 := by have := HSZ.out; omega
        have n80 : (next : Int) < 80 := by omega
        have n0 : (0 : Int) ≤ (next : Int) := Int.natCast_nonneg _
        clear hS5 hgot hlm hro hk
        go_wp2_with (first
          | (go_at_call 12; (with_reducible refine (number_is HD.out (by decide) (by decide) _).mono ?_); rintro e w' ⟨rfl, rfl⟩)
          | (go_at_call 12; (with_reducible refine (number_is HE.out (by decide) (by decide) _).mono ?_); rintro e w' ⟨rfl, rfl⟩)
          | (go_at_call 13; (with_reducible refine (lretire1 HH.out.at_.mine.lim HLAd.out (by omega) HK.out HS9.out HRS.out HGO.out HLEN.out).mono ?_); rintro e w5 ⟨A5, c5, rfl, T5⟩; obtain ⟨F5, O5, J5, A6⟩ := HH.out.at_.took T5; have HO5 := Lib.hid O5; have HJ5 := Lib.hid J5; obtain ⟨y1, y2, y3, y4⟩ := O5.cells (x := next) (by omega); clear T5 O5 J5))
        have O6 := HO5.out.setT (x := next) (now + d)
        have J6 := ints_setT (x := next) (a := .int .i64 (now + d)) HJ5.out A6
        obtain ⟨w6, hw6⟩ : ∃ w6, w5.setCell ⟨bt, next, none⟩ (.int .i64 (now + d)) = w6 := ⟨_, rfl⟩
        rw [hw6] at O6 J6 ⊢
        clear hw6 y1 y2 y3 y4 HO5 HJ5
        have HO6 := Lib.hid O6
        have HJ6 := Lib.hid J6
        have HA6 := Lib.hid A6
        clear O6 J6 A6
        have hn80 : next + 1 ≤ 80 := by omega
        go_loopw [7, 14] (fun a b wr => InRel wA q bt bc F5 S5 (put tg next (now + d)) (now + d) (next + 1) out got (.slice A5 m c5) a b wr) (fun _ b _ => m - (intOf b).toNat)
        case atStart => exact ⟨0, cm, rfl, rfl, HO6.out, HG.out, HHI.out, HJ6.out, Nat.zero_le _⟩
        case round =>
          obtain ⟨j, cm2, rfl, rfl, I⟩ := hrel
          have HI := Lib.hid I
          have hj := I.le
          have j0 : (0 : Int) ≤ (j : Int) := Int.natCast_nonneg _
          clear I
          by_cases hjl : j < m
          · have j1 : (j : Int) < (m : Int) := by omega
            have hjl2 : j < got.length := by rw [HLEN.out]; exact hjl
            obtain ⟨g, off2, hA, hc2⟩ := HI.out.ints.rd.cell hjl2
            obtain ⟨x2, hx2⟩ : ∃ x2, got.getD j 0 = x2 := ⟨_, rfl⟩
            obtain ⟨l0, l1, l2, l3, l4⟩ := HI.out.look hjl2 hx2
            rw [hx2] at hc2
            obtain ⟨x, rfl⟩ : ∃ x : Nat, x2 = x := ⟨x2.toNat, by omega⟩
            rw [show ((x : Int)).toNat = x by simp] at l2 l3 l4
            obtain ⟨y1, y2, y3, y4⟩ := HI.out.at_.cells (x := x) (by omega)
            rw [l3] at y2
            have HST := Lib.hid (HI.out.step hjl2 hx2 HA6.out)
            have HHA := Lib.hid hA
            obtain ⟨tx, htx⟩ : ∃ tx, (put tg next (now + d)) x = tx := ⟨_, rfl⟩
            rw [htx] at y1 l2 l4
            have p1 : ¬ (x : Int) < 0 := by omega
            have p2 : ¬ ((next : Int) + 1) ≤ (x : Int) := by omega
            have p3 : ¬ now + d < tx + 2 := by omega
            have p4 : (x : Int) < 80 := by omega
            have q1 : 0 ≤ tx := l4
            have q2 : tx ≤ 1000 := by omega
            have o1 : (0 : Int) ≤ ((out + j : Nat) : Int) := Int.natCast_nonneg _
            have o2 : ((out + j : Nat) : Int) ≤ 1000 := by omega
            subst hA
            clear hx2 l3 htx hjl2
            go_wp2_with fail
            go_roundw
            case rel => exact ⟨j + 1, _, by go_num, by go_num, HST.out⟩
            case measure => simp [intOf]; omega
          · have j1 : ¬ (j : Int) < (m : Int) := by omega
            obtain rfl : j = m := by have := HLEN.out; omega
            have HGD := Lib.hid (show Got S5 [] (now + d) (next + 1) (put tg next (now + d)) cm2 by have := HI.out.gt; rw [List.drop_of_length_le (by rw [HLEN.out]; omega)] at this; exact this)
            have HLE := Lib.hid (show S5.size ≤ 8192 by have := HSZ.out; omega)
            obtain ⟨L, hL⟩ : ∃ L, S5.size = L := ⟨_, rfl⟩
            have HL := Lib.hid hL
            have hL8 : L ≤ 8192 := by have := HLE.out; omega
            have hLs : (L : Int) + (out + j : Nat) = ((next : Int) + 1) := by have := HSZ.out; omega
            have hLe : ((L : Int) == ((next : Int) + 1) - ((out + j : Nat) : Int)) = true := by simp; omega
            have o1 : (0 : Int) ≤ ((out + j : Nat) : Int) := Int.natCast_nonneg _
            have o2 : ((out + j : Nat) : Int) ≤ 1000 := by omega
            have o3 : ((next : Int) + 1) ≤ 1000 := by omega
            have o4 : 0 ≤ ((next : Int) + 1) := by omega
            have HSR := Lib.hid (show S5.size + (out + j) = next + 1 by have := HSZ.out; omega)
            clear hL hLs
            go_wp2_with (first
              | (go_at_call 20; (with_reducible refine (llen_to HI.out.at_.mine.lim HL.out hL8).mono ?_); rintro e w7 ⟨rfl, U7⟩; have HU7 := Lib.hid U7; clear U7))
            go_roundw
            case rel => exact ⟨now + d, next + 1, out + j, i + 1, F5, S5, (put tg next (now + d)), cm2, rfl, by go_num, rfl, by go_num, by omega, HI.out.at_.then HU7.out, HGD.out.done, HI.out.hi, HLA.out, by omega, by omega, by omega, HSR.out⟩
            case measure => simp [intOf]; omega
    · have i1 : ¬ (i : Int) < (len0 : Int) := by omega
      have HOK := Lib.hid HH.out.at_.mine.lim.ok
      have HS8 := Lib.hid (show S.size ≤ 8192 by omega)
      have hre := Lb.rest_empty HOK.out (now := now + 2) (by have := HH.out.last; omega)
      have hro := Lb.rest_ok HOK.out (now + 2)
      obtain ⟨S5, hS5⟩ : ∃ S5, S.rest (now + 2) = S5 := ⟨_, rfl⟩
      obtain ⟨got, hgot⟩ : ∃ got, S.outs (now + 2) = got := ⟨_, rfl⟩
      obtain ⟨m, hlm⟩ : ∃ m, got.length = m := ⟨_, rfl⟩
      have HRS := Lib.hid hS5
      have HGO := Lib.hid hgot
      have HLEN := Lib.hid hlm
      rw [hS5] at hre hro
      rw [hgot, hlm] at hro
      have hms : m + out = next := by have := hro.2.2.1; omega
      have hmd : ((m : Int) == (next : Int) - out) = true := by simp; omega
      have HRE := Lib.hid hre
      have b1 : (next : Int) ≤ 80 := by omega
      have b2 : (out : Int) ≤ 80 := by omega
      have b3 : (0 : Int) ≤ (next : Int) := Int.natCast_nonneg _
      have b4 : (0 : Int) ≤ (out : Int) := Int.natCast_nonneg _
      clear hS5 hgot hlm hro hre hms
      go_wp2_with (first
        | (go_at_call 16; (with_reducible refine (lready_to HH.out.at_.mine.lim HS8.out HRS.out HGO.out HLEN.out).mono ?_); rintro e w6 ⟨A5, c5, rfl, T5⟩; obtain ⟨F5, O6, J6, A6⟩ := HH.out.at_.took T5; have HO6 := Lib.hid O6; clear T5 O6 J6 A6)
        | (go_at_call 20; (with_reducible refine (llen_to (n := 0) HO6.out.mine.lim HRE.out (by decide)).mono ?_); rintro e w7 ⟨rfl, U7⟩; have HU7 := Lib.hid U7; clear U7))
      go_ret
      exact ⟨rfl, HUA.out.trans (HO6.out.mine.up.trans HU7.out)⟩

set_option maxRecDepth 100000 in
theorem lifted (os : Os) (started : os.Started) (H : Type) (enc : TypeId × Value → H) :
    ReturnsInHanded {} Try.checked os 4 .any (Rows.limboOnceSpec.pre6 enc Try.prog Try.f4 Rows.limboOnceRow.domain false) (Rows.limboOnceSpec.post enc Try.prog Try.f4 false true false false) := by
  refine returnsInHanded_of_change (C := Try.checked) own started (by kernel_rfl) Try.func4
    (ChangeSpec.witness6 (enc := enc) (C := Try.checked) false ⟨#[], #[.slice none 0 0], []⟩ 8 (by kernel_rfl) (by kernel_rfl) (by kernel_rfl) (by kernel_rfl)) ?_
  intro W base args ds gs before hval0 hW hcnd _
  have hval : ∀ (j : Nat) t v, Try.f4.params[j]? = some t → args[j]? = some v → Value.okWide Try.prog W .any base t v := hval0
  have hW' := hW
  obtain ⟨p, q, hA0, hV, rfl, hfz, hnd⟩ := hW
  have hA : DataW.TrodAll enc Try.prog W 0 (fun _ => true) true Try.f4.params.toList args.toList ds p := hA0
  rw [Try.params4] at hA hval
  obtain ⟨v0, vs0, d0, ds0, p0, q0, hargs, rfl, rfl, h0, r0⟩ := trodAll_cons hA
  obtain ⟨rfl, rfl, rfl⟩ := trodAll_nil r0
  obtain rfl : args = #[v0] := by cases args; simp_all
  obtain ⟨rfl, rfl⟩ := trodVars_none hV
  have k0 := h0
  have lt0 : ∀ x ∈ p0, x.block < W.heap.size := by obtain ⟨m, hm⟩ := k0; exact DataW.trod_lt m _ _ _ hm
  obtain ⟨a0, len0, cap0, rfl⟩ := okWide_slice Try.underlying28 (hval 0 28 v0 rfl rfl)
  obtain ⟨z0, w0⟩ : ∃ zs, IsRow .i64 W a0 len0 cap0 zs := by
    obtain ⟨fuel, hf⟩ := h0
    rcases open_ints Try.underlying28 Try.underlying3 (by kernel_rfl) hf with ⟨hcs, _⟩ | ⟨x, l, c, zs, hcs, _, hl, hm, hz, _, hcell, hwz⟩
    · simp [Value.cells] at hcs
      obtain ⟨rfl, rfl, rfl⟩ := hcs
      exact ⟨[], .inl ⟨rfl, rfl, rfl, rfl⟩⟩
    · simp [Value.cells] at hcs
      obtain ⟨rfl, rfl, rfl⟩ := hcs
      exact ⟨zs, .inr ⟨_, rfl, hl, hm, by simpa using hz, hcell, hwz⟩⟩
  clear hA0 hval0
  refine (walk a0 len0 cap0 z0 W w0).mono fun e W' ⟨he, bel⟩ => ?_
  subst he
  exact ⟨_, rfl, _, _, _, [], _, [], hW', trodAll_mk1 (shut_bool Try.underlying4 _), (trodAll_cons_mk (Below.trod laidOut (by kernel_rfl) (of_decide_eq_true (by kernel_rfl)) k0 bel lt0) trodAll_mk0), rfl, Below.frame bel _, fun h => by cases h⟩

theorem over : Rows.limboOnceRow.holds Try.pinned (OpenSpec.ofChange Rows.limboOnceSpec) :=
  OpenClaim.holds_of_wide 4 Try.f4 rfl rfl rfl rfl rfl rfl rfl ⟨rfl, rfl, rfl, rfl, rfl⟩ rfl rfl rfl rfl rfl (by kernel_rfl) Try.func4 (by kernel_rfl)
    (of_decide_eq_true (by kernel_rfl)) (by unfold Func.isWrapper; first | (rw [if_pos (by decide +kernel)]; kernel_rfl) | (rw [if_neg (by decide +kernel)]; exact ⟨rfl, rfl⟩))
    (fun os started H enc _ => lifted os started H enc)

/-- THE STATEMENT -/
theorem proved : Rows.LimboOnceSaid := over
#print axioms proved
end Go.Proofs.Ythajdabdiaogiaa.limboOnce
