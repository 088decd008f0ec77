/-
  EpochPlays of layer 9: four who enter, leave, advance, one access at a time: each cell behind each step, each machine's end, are what the reference says; for all words and every row of numbers.
-/
import Derived.Test.YtngaokhlcdlpfaaRows
import Derived.Test.YtngaokhlcdlpfaaEpPlayLaw
import Derived.WalkKit
import Derived.ProofKit
import Derived.OpenShut
import Derived.ShutString
import Derived.ChangeOld
import Derived.Below
import Derived.Carry
import Derived.Lib.SmallJoins
import Derived.OwnWalk
import Derived.BigQuiet
namespace Go.Proofs.Ytngaokhlcdlpfaa.epochPlays
open Go.ChangeShapes Go.WideShapes Go.ChangeAt Go.RowKit Go.Joins Go.Proofs.Ytngaokhlcdlpfaa W64
open Go.ChangeMaps (open_string shut_string)
set_option linter.unusedVariables false

theorem own : ownKnob Try.prog.godebug = none := by kernel_rfl
theorem laidOut : laidOutB Try.prog = true := by kernel_rfl

theorem quo4 {z : Int} (h : (Lit.int .i64 z).wf = true) : IntKind.i64.wrap (z.tdiv 4) = z.tdiv 4 ∧ wrap64 (z.tdiv 4) = z.tdiv 4 := by
  have := W64.i64_in h
  have h2 : -9223372036854775808 ≤ z.tdiv 4 ∧ z.tdiv 4 < 9223372036854775808 := by
    rcases Int.le_total 0 z with h | h
    · rw [Int.tdiv_eq_ediv_of_nonneg h]; omega
    · have e : z.tdiv 4 = -((-z).tdiv 4) := by rw [Int.neg_tdiv]; omega
      rw [e, Int.tdiv_eq_ediv_of_nonneg (by omega)]; omega
  exact ⟨IntWalk.i64_in _ (by omega), wrap64_in h2.1 h2.2⟩
theorem row_mem {zs : List Int} {k : Nat} (h : k < zs.length) : zs.getD k 0 ∈ zs := by simp [List.getD, h]
theorem row_wf {w : World} {a : Option Addr} {len cap : Nat} {zs : List Int} (h : IsRow .i64 w a len cap zs) {k : Nat} (hk : k < len) : (Lit.int .i64 (zs.getD k 0)).wf = true := by
  rcases h with ⟨_, rfl, _, _⟩ | ⟨x, _, hl, hm, hz, _, hw⟩
  · omega
  · exact hw _ (row_mem (by omega))
def pinF (a b c d : Int) (j : Nat) : Int := ([a, b, c, d] : List Int).getD j 0
theorem pinF_in {a b c d : Int} (ha : 0 ≤ a ∧ a < 18446744073709551616) (hb : 0 ≤ b ∧ b < 18446744073709551616) (hc : 0 ≤ c ∧ c < 18446744073709551616) (hd : 0 ≤ d ∧ d < 18446744073709551616) (j : Nat) : 0 ≤ pinF a b c d j ∧ pinF a b c d j < 18446744073709551616 := by
  unfold pinF
  rcases (show j = 0 ∨ j = 1 ∨ j = 2 ∨ j = 3 ∨ 4 ≤ j by omega) with rfl | rfl | rfl | rfl | h
  · exact ha
  · exact hb
  · exact hc
  · exact hd
  · have : ([a, b, c, d] : List Int).getD j 0 = 0 := by unfold List.getD; rw [List.getElem?_eq_none (by simp; omega)]; rfl
    rw [this]; omega
theorem pinF_cell {w : World} {a b c d : Int} {t : TypeId} {j : Nat} (hj : j < 4) : (w.alloc (.cells #[.int .u64 a, .int .u64 b, .int .u64 c, .int .u64 d] t)).cell? ⟨w.heap.size, j, none⟩ = some (.int .u64 (pinF a b c d j)) := by
  refine cell_new rfl ?_
  rcases (show j = 0 ∨ j = 1 ∨ j = 2 ∨ j = 3 by omega) with rfl | rfl | rfl | rfl <;> rfl
theorem wrapJ {j : Nat} (h : j < 4) : IntKind.i64.wrap (1 + (j : Int)) = 1 + (j : Int) ∧ wrap64 (1 + (j : Int)) = 1 + (j : Int) := ⟨IntWalk.i64_in _ (by omega), wrap64_in (by omega) (by omega)⟩

set_option maxHeartbeats 8000000 in
set_option maxRecDepth 100000 in
theorem walk (a0 : Int) (a1_0 : Int) (a1_1 : Int) (a1_2 : Int) (a1_3 : Int) (a2 : Option Addr) (len2 cap2 : Nat) (z2 : List Int) (w : World) (w0 : (Lit.int .u64 a0).wf = true) (w1_0 : (Lit.int .u64 a1_0).wf = true) (w1_1 : (Lit.int .u64 a1_1).wf = true) (w1_2 : (Lit.int .u64 a1_2).wf = true) (w1_3 : (Lit.int .u64 a1_3).wf = true) (w2 : IsRow .i64 w a2 len2 cap2 z2) :
    Calls Try.prog 3 #[.int .u64 a0, .agg #[.int .u64 a1_0, .int .u64 a1_1, .int .u64 a1_2, .int .u64 a1_3], .slice a2 len2 cap2] w fun e w' => e = .returned (.bool true) ∧ Up w w' := by
  have HB0 := Lib.hid (u64_in w0)
  obtain ⟨p0, p1⟩ := HB0.out
  have HPF := Lib.hid (pinF_in (u64_in w1_0) (u64_in w1_1) (u64_in w1_2) (u64_in w1_3))
  have HW2 := Lib.hid w2
  have hm := row_len w2
  unfold maxLen at hm
  clear w0 w1_0 w1_1 w1_2 w1_3 w2
  by_cases hlen : len2 ≤ 120
  rotate_left
  · have hl2 : (120 : Int) < (len2 : Int) := by omega
    go_enter Try.func3, Try.ntmps3
    go_wp2_with (go_at_call 8; refine (first_any _).mono ?_; rintro r wA ⟨rfl, UA⟩)
    go_ret
    exact ⟨rfl, (Up.alloc _ _).trans UA⟩
  have hl2 : ¬ (120 : Int) < (len2 : Int) := by omega
  have H4 := Lib.hid (show (4 : Int) = ((4 : Nat) : Int) from rfl)
  have H5 := Lib.hid (show (5 : Int) = ((5 : Nat) : Int) from rfl)
  have H0 := Lib.hid (show (0 : Int) = ((0 : Nat) : Int) from rfl)
  go_enter Try.func3, Try.ntmps3
  go_upto_region 11 with (first
    | (go_at_call 8; refine (first_any _).mono ?_; rintro r wA ⟨rfl, UA⟩; have HUA := Lib.hid UA; clear UA)
    | (go_at_call 9; (with_reducible refine (made_is H4.out (by decide) (by decide) _).mono ?_); rintro r w1 ⟨p, g, q, rfl, S1⟩; have HS1 := Lib.hid (show Sit wA w1 p g q 4 [0, 0, 0, 0, 0] 0 from S1); clear S1)
    | (go_at_call 10; (with_reducible refine (rnew_is H5.out _).mono ?_); rintro r w2 ⟨rfl, R2, U2⟩; have HT := Lib.hid (twin_start HS1.out R2 U2); clear R2 U2))
  have HBX := Lib.hid (fun j (hj : j < 4) => HUA.out.kept (pinF_cell (w := w) (a := a1_0) (b := a1_1) (c := a1_2) (d := a1_3) (t := 23) hj))
  have HUW := Lib.hid ((Up.alloc w _).trans HUA.out)
  have hbpw : w.heap.size < wA.heap.size := by
    have := HUA.out.size
    have e : (w.alloc (.cells #[.int .u64 a1_0, .int .u64 a1_1, .int .u64 a1_2, .int .u64 a1_3] 23)).heap.size = w.heap.size + 1 := by simp
    omega
  obtain ⟨gr, hgr⟩ : ∃ gr, w1.heap.size = gr := ⟨_, rfl⟩
  obtain ⟨pr, hpr⟩ : ∃ pr, w1.heap.size + 1 = pr := ⟨_, rfl⟩
  obtain ⟨qr, hqr⟩ : ∃ qr, w2.heap.size = qr := ⟨_, rfl⟩
  rw [hpr, hgr, hqr] at HT
  rw [hpr, hqr]
  generalize hw3 : w2.alloc (.cells #[.pointer (some ⟨pr, 0, none⟩), .int .i64 0, .int .i64 1, .int .i64 4] 34) = w3 at *
  clear hgr hpr hqr hw3
  have m0 := HT.out.rsit.epo.ref.cells.1
  have d0 := HT.out.rsit.epo.ref.cell (i := 0) (by decide)
  have fr0 := HT.out.rsit.epo.ref.row.frozen 0
  obtain ⟨SA, RA⟩ := Twin.layR HT.out.sit HT.out.rsit HT.out.ord 0 p0 p1
  have HSA := Lib.hid SA
  have HRA := Lib.hid RA
  have HORD := Lib.hid (show (p < gr ∧ g < gr ∧ q < gr) ∧ (gr ≤ pr ∧ gr ≤ gr ∧ gr ≤ qr) ∧ (pr < qr + 1 ∧ gr < qr + 1 ∧ qr < qr + 1) ∧ qr + 1 ≤ (w3.setCell ⟨gr, 0, none⟩ (.int .u64 a0)).heap.size by rw [size_set]; exact HT.out.ord)
  obtain ⟨Y0, hY0⟩ : ∃ Y, pinXs a0 (pinF a1_0 a1_1 a1_2 a1_3) 0 = Y := ⟨_, rfl⟩
  have HY0 := Lib.hid (show ([0, 0, 0, 0, 0] : List Int).set 0 a0 = Y0 from hY0)
  have HYS := Lib.hid hY0
  have HK0 := Lib.hid (show 0 < ([0, 0, 0, 0, 0] : List Int).length by decide)
  have HP0 := Lib.hid p0
  have HP1 := Lib.hid p1
  clear SA RA hY0 HS1
  go_wp2_with (go_at_call 11; (with_reducible refine (lays HSA.out H0.out HK0.out HP0.out HP1.out HY0.out).mono ?_); rintro r w4 ⟨rfl, S4, E4⟩; have HT4 := Lib.hid (Twin.layP S4 (HY0.out ▸ HRA.out) HORD.out E4); clear S4 E4)
  clear m0 d0 fr0
  obtain ⟨bp, hbp⟩ : ∃ bp, w.heap.size = bp := ⟨_, rfl⟩
  rw [hbp] at HBX hbpw ⊢
  clear hbp
  rw [← HYS.out] at HT4
  obtain ⟨F, hF⟩ : ∃ F, pinF a1_0 a1_1 a1_2 a1_3 = F := ⟨_, rfl⟩
  rw [hF] at HT4 HPF HBX
  clear hF HYS HY0
  go_loopw [12] (fun i wr => PinRel wA p g q pr gr qr gr (qr + 1) a0 F i wr) (fun i _ => 4 - (intOf i).toNat)
  case atStart => exact ⟨0, rfl, by omega, HT4.out⟩
  case round =>
    obtain ⟨j, rfl, hj, T⟩ := hrel
    have HTj := Lib.hid T
    clear T
    have j0 : (0 : Int) ≤ (j : Int) := Int.natCast_nonneg _
    by_cases hlt : j < 4
    · have j1 : (j : Int) < 4 := by omega
      obtain ⟨J, hJ⟩ : ∃ J : Nat, J = 1 + j := ⟨_, rfl⟩
      have m0 := HTj.out.rsit.epo.ref.cells.1
      rw [pinXs_len] at m0
      have d1 := HTj.out.rsit.epo.ref.cell (i := J) (by rw [pinXs_len]; omega)
      have fr1 := HTj.out.rsit.epo.ref.row.frozen J
      have kb := HTj.out.sit.up.kept (HBX.out j hlt)
      obtain ⟨f0, f1⟩ := HPF.out j
      obtain ⟨SA, RA⟩ := Twin.layR HTj.out.sit HTj.out.rsit HTj.out.ord J f0 f1
      have HSA := Lib.hid (SA.ups (up_drew _))
      have HRA := Lib.hid (RA.ups (up_drew _))
      have HORD := Lib.hid (show (p < gr ∧ g < gr ∧ q < gr) ∧ (gr ≤ pr ∧ gr ≤ gr ∧ gr ≤ qr) ∧ (pr < qr + 1 ∧ gr < qr + 1 ∧ qr < qr + 1) ∧ qr + 1 ≤ (wr.setCell ⟨gr, J, none⟩ (.int .u64 (F j))).drew.heap.size by
        have h := HTj.out.ord
        have e : (wr.setCell ⟨gr, J, none⟩ (.int .u64 (F j))).drew.heap.size = wr.heap.size := size_set wr _ _
        rw [e]; exact h)
      have HK := Lib.hid (show J < (pinXs a0 F j).length by rw [pinXs_len]; omega)
      obtain ⟨Y, hY⟩ : ∃ Y, pinXs a0 F (j + 1) = Y := ⟨_, rfl⟩
      have HYY := Lib.hid (show (pinXs a0 F j).set J (F j) = Y by rw [hJ]; exact hY)
      have HYS := Lib.hid hY
      obtain ⟨v, hv⟩ : ∃ v, F j = v := ⟨_, rfl⟩
      rw [hv] at kb HSA HRA HORD HYY f0 f1
      have HF0 := Lib.hid f0
      have HF1 := Lib.hid f1
      have i5 : (J : Int) < 5 := by omega
      have i6 : (0 : Int) ≤ (J : Int) := by omega
      have HI := Lib.hid (show 1 + (j : Int) = ((J : Nat) : Int) by omega)
      have sw := wrapJ (j := j) hlt
      have e1 : (1 + (j : Int)).toNat = J := by omega
      have i7 : 1 + (j : Int) < 5 := by omega
      have i8 : (0 : Int) ≤ 1 + (j : Int) := by omega
      obtain ⟨sw1, sw2⟩ := sw
      clear SA RA hY hv hJ
      go_upto_region 16 with fail
      go_still_tail 10, (by kernel_rfl)
      go_upto_region 17 with fail
      have kb2 : (wr.setCell ⟨gr, J, none⟩ (.int .u64 v)).drew.cell? ⟨bp, j, none⟩ = some (.int .u64 v) := (up_drew _).kept (kept_set (ad_ne (by have := HTj.out.rsit.lg; omega)) kb)
      clear kb m0 d1 fr1
      generalize (wr.setCell ⟨gr, J, none⟩ (.int .u64 v)).drew = w5 at *
      go_wp2_with (go_at_call 11; (with_reducible refine (lays HSA.out HI.out HK.out HF0.out HF1.out HYY.out).mono ?_); rintro r w6 ⟨rfl, S6, E6⟩; have HT6 := Lib.hid (Twin.layP S6 (HYY.out ▸ HRA.out) HORD.out E6); clear S6 E6)
      go_roundw
      case rel => exact ⟨j + 1, by go_num, by omega, by rw [HYS.out]; exact HT6.out⟩
      case measure => simp [intOf]; omega
    · have j1 : ¬ (j : Int) < 4 := by omega
      go_wp2_with fail
      have HPO := Lib.hid HTj.out.play
      obtain ⟨bH, hbH⟩ : ∃ bH, wr.heap.size = bH := ⟨_, rfl⟩
      rw [hbH] at HPO ⊢
      clear hbH HT HT4
      go_loopw [14] (fun i wr' => PlayRel wA p g q pr gr qr bH gr (qr + 1) (bH + 1) len2 i wr') (fun i _ => len2 - (intOf i).toNat)
      case atStart => exact ⟨0, rfl, Nat.zero_le _, HPO.out⟩
      case round =>
        obtain ⟨n, rfl, hn, PO⟩ := hrel
        have HP := Lib.hid PO
        clear PO
        have n0 : (0 : Int) ≤ (n : Int) := Int.natCast_nonneg _
        by_cases hlt2 : n < len2
        rotate_left
        · have n1 : ¬ (n : Int) < (len2 : Int) := by omega
          go_wp2_with fail
          go_ret
          obtain ⟨m, V, o, xs, c, X, L⟩ := HP.out
          exact ⟨rfl, HUW.out.trans X.sit.up⟩
        have n1 : (n : Int) < (len2 : Int) := by omega
        obtain ⟨m, V, o, xs, c, X, L⟩ := HP.out
        have HX := Lib.hid X
        have HL := Lib.hid L
        obtain ⟨bl, off, rfl, hb, hc⟩ := row_cell HW2.out hlt2
        have hwf := row_wf HW2.out hlt2
        replace hc := (HUW.out.trans X.sit.up).kept hc
        clear X L
        obtain ⟨z, hz⟩ : ∃ z, z2.getD n 0 = z := ⟨_, rfl⟩
        rw [hz] at hc hwf
        clear hz
        obtain ⟨q1, q2⟩ := quo4 hwf
        clear hwf
        obtain ⟨u', hu', _, u0, u1⟩ := emod_letter z 4 (by decide)
        obtain ⟨u, rfl⟩ : ∃ u : Nat, u' = u := ⟨u'.toNat, by omega⟩
        obtain ⟨v, hv, _, v0, v1⟩ := emod_letter (z.tdiv 4) 4 (by decide)
        have HU := Lib.hid hu'
        have HV := Lib.hid hv
        have hu4 : u < 4 := by omega
        clear hu' hv
        go_wp2_with (first
          | (go_at_call 12; (with_reducible refine (number_is HU.out (by decide) (by decide) _).mono ?_); rintro r w' ⟨rfl, rfl⟩)
          | (go_at_call 12; (with_reducible refine (number_is HV.out (by decide) (by decide) _).mono ?_); rintro r w' ⟨rfl, rfl⟩)
          | (go_at_call 13; (with_reducible refine (goes_any HX.out HL.out hu4 v).mono ?_); rintro r w5 ⟨rfl, O5⟩; have HO5 := Lib.hid O5; clear O5))
        obtain ⟨m5, V5, o5, xs5, c5, X5, L5⟩ := HO5.out
        have HX5 := Lib.hid X5
        have HL5 := Lib.hid L5
        have hl5 := X5.sit.len
        clear X5 L5 hc
        go_loopw [16] (fun i wr' => SameRel wA p g q pr gr qr bH gr (qr + 1) (bH + 1) m5 V5 o5 xs5 c5 i wr') (fun i _ => 5 - (intOf i).toNat)
        case atStart => exact ⟨0, rfl, by omega, HX5.out⟩
        case round =>
          obtain ⟨k, rfl, hk, X⟩ := hrel
          have HXk := Lib.hid X
          clear X
          have k0 : (0 : Int) ≤ (k : Int) := Int.natCast_nonneg _
          have m0 := HXk.out.rsit.epo.ref.cells.1
          have m1 := HXk.out.rsit.epo.ref.cells.2
          by_cases hlt3 : k < 5
          · have k1 : (k : Int) < 5 := by omega
            have k2 : (k : Int) < (xs5.length : Int) := by omega
            have dk := HXk.out.rsit.epo.ref.cell (i := k) (by omega)
            obtain ⟨x, hx⟩ : ∃ x, xs5.getD k 0 = x := ⟨_, rfl⟩
            rw [hx] at dk
            have HXX := Lib.hid hx
            have HKK := Lib.hid (show k < xs5.length by omega)
            have HKI := Lib.hid (show (k : Int) = ((k : Nat) : Int) ∨ False from .inl rfl)
            clear hx
            go_upto_region 28 with fail
            go_quiet ((go_at_call 14; exact quiet_eq (peeks (HXk.out.sit.ups (Up.drewN _ _)) rfl HKK.out HXX.out)))
            go_wp2_with fail
            go_roundw
            case rel => exact ⟨k + 1, by go_num, by omega, HXk.out.up (Up.drewN _ _)⟩
            case measure => simp [intOf]; omega
          · have k1 : ¬ (k : Int) < 5 := by omega
            have i5 : 1 + (u : Int) < (xs5.length : Int) := by omega
            have i6 : (0 : Int) ≤ 1 + (u : Int) := by omega
            have uu0 : (0 : Int) ≤ (u : Int) := Int.natCast_nonneg _
            obtain ⟨x, hx⟩ : ∃ x, xs5.getD (1 + u) 0 = x := ⟨_, rfl⟩
            have hwd := HXk.out.sit.word (1 + u)
            rw [hx] at hwd
            obtain ⟨pe, hpe⟩ : ∃ pe, pinE x = pe := ⟨_, rfl⟩
            obtain ⟨po, hpo⟩ : ∃ po, pinO x = po := ⟨_, rfl⟩
            have HPE := Lib.hid (show pinE (xs5.getD (1 + u) 0) = pe by rw [hx]; exact hpe)
            have HPO' := Lib.hid (show pinO (xs5.getD (1 + u) 0) = po by rw [hx]; exact hpo)
            have HRG := Lib.hid (rgetPin_to hpe hpo hwd.1 hwd.2)
            obtain ⟨ep, hep⟩ : ∃ ep, epN (xs5.getD 0 0) = ep := ⟨_, rfl⟩
            have HEP := Lib.hid hep
            have HHX := Lib.hid hx
            clear hx hpe hpo hep hwd m0 m1
            go_upto_region 31 with (go_at_call 15; (with_reducible refine (pinned_to HXk.out.sit hu4 HPE.out HPO'.out).mono ?_); rintro r w7 ⟨rfl, U7⟩; have HX7 := Lib.hid (HXk.out.up U7); clear U7)
            have m0 := HX7.out.rsit.epo.ref.cells.1
            have m1 := HX7.out.rsit.epo.ref.cells.2
            have dk := HX7.out.rsit.epo.ref.cell (i := 1 + u) (by omega)
            rw [HHX.out] at dk
            go_upto_region 32 with (go_at_call 16; refine (HRG.out _).mono ?_; rintro r w' ⟨rfl, rfl⟩)
            clear m0 dk
            go_region_held3 (fun w' => w'.cell? ⟨pr, 1, none⟩ = some (.int .i64 c5)) ((first | exact m1 | exact U8.kept m1 | exact U9.kept (U8.kept m1)))
              (first
                | (go_at_call 17; refine (counts (HX7.out.up (up_drew _)).sit).mono ?_; rintro r w' ⟨rfl, rfl⟩)
                | (go_at_call 18; refine (now_to (HX7.out.up (up_drew _)).sit HEP.out).mono ?_; rintro r w8 ⟨rfl, U8⟩)
                | (go_at_call 19; refine (rnow_to ((HX7.out.up (up_drew _)).up U8).rsit HEP.out).mono ?_; rintro r w9 ⟨rfl, U9⟩))
            have HX9 := Lib.hid (((HX7.out.up (up_drew _)).up U8).up U9)
            clear U8 U9 m1
            go_wp2_with fail
            go_roundw
            case rel => exact ⟨n + 1, by go_num, by omega, m5, V5, o5, xs5, c5, HX9.out, HL5.out⟩
            case measure => simp [intOf]; omega

set_option maxRecDepth 100000 in
theorem lifted (os : Os) (started : os.Started) (H : Type) (enc : TypeId × Value → H) :
    ReturnsInHanded {} Try.checked os 3 .any (Rows.epochPlaysSpec.pre6 enc Try.prog Try.f3 Rows.epochPlaysRow.domain false) (Rows.epochPlaysSpec.post enc Try.prog Try.f3 false true false false) := by
  refine returnsInHanded_of_change (C := Try.checked) own started (by kernel_rfl) Try.func3
    (ChangeSpec.witness6 (enc := enc) (C := Try.checked) false ⟨#[], #[.int .u64 0, .agg #[.int .u64 0, .int .u64 0, .int .u64 0, .int .u64 0], .slice none 0 0], []⟩ 8 (by kernel_rfl) (by kernel_rfl) (by kernel_rfl) (by kernel_rfl)) ?_
  intro W base args ds gs before hval0 hW hcnd _
  have hval : ∀ (j : Nat) t v, Try.f3.params[j]? = some t → args[j]? = some v → Value.okWide Try.prog W .any base t v := hval0
  have hW' := hW
  obtain ⟨p, q, hA0, hV, rfl, hfz, hnd⟩ := hW
  have hA : DataW.TrodAll enc Try.prog W 0 (fun _ => true) true Try.f3.params.toList args.toList ds p := hA0
  rw [Try.params3] at hA hval
  obtain ⟨v0, vs0, d0, ds0, p0, q0, hargs, rfl, rfl, h0, r0⟩ := trodAll_cons hA
  obtain ⟨v1, vs1, d1, ds1, p1, q1, rfl, rfl, rfl, h1, r1⟩ := trodAll_cons r0
  obtain ⟨v2, vs2, d2, ds2, p2, q2, rfl, rfl, rfl, h2, r2⟩ := trodAll_cons r1
  obtain ⟨rfl, rfl, rfl⟩ := trodAll_nil r2
  obtain rfl : args = #[v0, v1, v2] := by cases args; simp_all
  obtain ⟨rfl, rfl⟩ := trodVars_none hV
  have k0 := h0
  have lt0 : ∀ x ∈ p0, x.block < W.heap.size := by obtain ⟨m, hm⟩ := k0; exact DataW.trod_lt m _ _ _ hm
  obtain ⟨a0, rfl, rfl, rfl, w0⟩ := open_int Try.underlying22 (hval 0 22 v0 rfl rfl) h0
  have k1 := h1
  have lt1 : ∀ x ∈ p1, x.block < W.heap.size := by obtain ⟨m, hm⟩ := k1; exact DataW.trod_lt m _ _ _ hm
  obtain ⟨c1_0, c1_1, c1_2, c1_3, y1_0, y1_1, y1_2, y1_3, m1, rfl, rfl, rfl, hy1_0, hy1_1, hy1_2, hy1_3⟩ := open_arr4 Try.underlying23 (by kernel_rfl) (by kernel_rfl) (hval 1 23 v1 rfl rfl) h1
  obtain ⟨a1_0, e1_0, rfl, w1_0⟩ := DataW.trod_int Try.underlying22 hy1_0
  obtain ⟨a1_1, e1_1, rfl, w1_1⟩ := DataW.trod_int Try.underlying22 hy1_1
  obtain ⟨a1_2, e1_2, rfl, w1_2⟩ := DataW.trod_int Try.underlying22 hy1_2
  obtain ⟨a1_3, e1_3, rfl, w1_3⟩ := DataW.trod_int Try.underlying22 hy1_3
  simp at e1_0 e1_1 e1_2 e1_3
  subst e1_0 e1_1 e1_2 e1_3
  have k2 := h2
  have lt2 : ∀ x ∈ p2, x.block < W.heap.size := by obtain ⟨m, hm⟩ := k2; exact DataW.trod_lt m _ _ _ hm
  obtain ⟨a2, len2, cap2, rfl⟩ := okWide_slice Try.underlying24 (hval 2 24 v2 rfl rfl)
  obtain ⟨z2, w2⟩ : ∃ zs, IsRow .i64 W a2 len2 cap2 zs := by
    obtain ⟨fuel, hf⟩ := h2
    rcases open_ints Try.underlying24 Try.underlying3 (by kernel_rfl) hf with ⟨hcs, _⟩ | ⟨x, l, c, zs, hcs, _, hl, hm, hz, _, hcell, hwz⟩
    · simp [Value.cells] at hcs
      obtain ⟨rfl, rfl, rfl⟩ := hcs
      exact ⟨[], .inl ⟨rfl, rfl, rfl, rfl⟩⟩
    · simp [Value.cells] at hcs
      obtain ⟨rfl, rfl, rfl⟩ := hcs
      exact ⟨zs, .inr ⟨_, rfl, hl, hm, by simpa using hz, hcell, hwz⟩⟩
  clear hA0 hval0
  refine (walk a0 a1_0 a1_1 a1_2 a1_3 a2 len2 cap2 z2 W w0 w1_0 w1_1 w1_2 w1_3 w2).mono fun e W' ⟨he, bel⟩ => ?_
  subst he
  exact ⟨_, rfl, _, _, _, [], _, [], hW', trodAll_mk1 (shut_bool Try.underlying4 _), (trodAll_cons_mk (Below.trod laidOut (by kernel_rfl) (of_decide_eq_true (by kernel_rfl)) k0 bel lt0) (trodAll_cons_mk (Below.trod laidOut (by kernel_rfl) (of_decide_eq_true (by kernel_rfl)) k1 bel lt1) (trodAll_cons_mk (Below.trod laidOut (by kernel_rfl) (of_decide_eq_true (by kernel_rfl)) k2 bel lt2) trodAll_mk0))), rfl, Below.frame bel _, fun h => by cases h⟩

theorem over : Rows.epochPlaysRow.holds Try.pinned (OpenSpec.ofChange Rows.epochPlaysSpec) :=
  OpenClaim.holds_of_wide 3 Try.f3 rfl rfl rfl rfl rfl rfl rfl ⟨rfl, rfl, rfl, rfl, rfl⟩ rfl rfl rfl rfl rfl (by kernel_rfl) Try.func3 (by kernel_rfl)
    (of_decide_eq_true (by kernel_rfl)) (by unfold Func.isWrapper; first | (rw [if_pos (by decide +kernel)]; kernel_rfl) | (rw [if_neg (by decide +kernel)]; exact ⟨rfl, rfl⟩))
    (fun os started H enc _ => lifted os started H enc)

/-- THE STATEMENT -/
theorem proved : Rows.EpochPlaysSaid := over
#print axioms proved
end Go.Proofs.Ytngaokhlcdlpfaa.epochPlays
