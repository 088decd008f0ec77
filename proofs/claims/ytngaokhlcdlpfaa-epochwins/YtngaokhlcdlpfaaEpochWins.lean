/-
  EpochWins of layer 9: of several who advance at once from one epoch one wins, and the epoch is then one more; for all numbers and every row of numbers.
-/
import Derived.Test.YtngaokhlcdlpfaaRows
import Derived.Test.YtngaokhlcdlpfaaEpWin2
import Derived.WalkKit
import Derived.ProofKit
import Derived.OpenShut
import Derived.ShutString
import Derived.ChangeOld
import Derived.Below
import Derived.Carry
import Derived.Lib.SmallJoins
import Derived.OwnWalk
import Derived.BigQuiet
namespace Go.Proofs.Ytngaokhlcdlpfaa.epochWins
open Go.ChangeShapes Go.WideShapes Go.ChangeAt Go.RowKit Go.Joins Go.Proofs.Ytngaokhlcdlpfaa W64
open Go.ChangeMaps (open_string shut_string)
set_option linter.unusedVariables false

theorem own : ownKnob Try.prog.godebug = none := by kernel_rfl
theorem laidOut : laidOutB Try.prog = true := by kernel_rfl


set_option maxHeartbeats 2000000 in
set_option maxRecDepth 100000 in
theorem walk (a0 : Int) (a1 : Option Addr) (len1 cap1 : Nat) (z1 : List Int) (w : World) (w0 : (Lit.int .i64 a0).wf = true) (w1 : IsRow .i64 w a1 len1 cap1 z1) :
    Calls Try.prog 5 #[.int .i64 a0, .slice a1 len1 cap1] w fun e w' => e = .returned (.bool true) ∧ Up w w' := by
  have HW1 := Lib.hid w1
  have hm := row_len w1
  unfold maxLen at hm
  clear w0 w1
  by_cases hlen : len1 ≤ 100
  rotate_left
  · have hl2 : (100 : Int) < (len1 : Int) := by omega
    go_enter Try.func5, Try.ntmps5
    go_wp2_with (go_at_call 8; refine (first_any _).mono ?_; rintro r wA ⟨rfl, UA⟩)
    go_ret
    exact ⟨rfl, UA⟩
  have hl2 : ¬ (100 : Int) < (len1 : Int) := by omega
  obtain ⟨y, hy, _, y0, y1⟩ := emod_letter a0 4 (by decide)
  obtain ⟨k, hk⟩ : ∃ k : Nat, 2 + y = (k : Int) := ⟨(2 + y).toNat, by omega⟩
  have k2 : 2 ≤ k := by omega
  have k5 : k ≤ 5 := by omega
  have HY := Lib.hid hy
  have HK := Lib.hid hk
  have H3 := Lib.hid (show (3 : Int) = ((3 : Nat) : Int) from rfl)
  clear hy hk
  go_enter Try.func5, Try.ntmps5
  go_wp2_with (first
    | (go_at_call 8; refine (first_any _).mono ?_; rintro r wA ⟨rfl, UA⟩; have HUA := Lib.hid UA; clear UA)
    | (go_at_call 12; (with_reducible refine (number_is HY.out (by decide) (by decide) _).mono ?_); rintro r w' ⟨rfl, rfl⟩)
    | (go_at_call 9; (with_reducible refine (made_is H3.out (by decide) (by decide) _).mono ?_); rintro r w1 ⟨p, g, q, rfl, S1⟩; have HS1 := Lib.hid (show Sit wA w1 p g q 3 [0, 0, 0, 0] 0 from S1); clear S1))
  rw [HK.out]
  go_loopw [9, 10] (fun v i wr => WinA wA p g q k v i wr) (fun _ i _ => k - (intOf i).toNat)
  case atStart => exact ⟨[], rfl, by simp, Win.nil HS1.out⟩
  case round =>
    obtain ⟨bs, rfl, hj, X⟩ := hrel
    have HX := Lib.hid X
    obtain ⟨A, cap, rfl⟩ := own_slice X.row
    clear X
    have i0 : (0 : Int) ≤ (bs.length : Int) := Int.natCast_nonneg _
    by_cases hlt : bs.length < k
    · have i1 : (bs.length : Int) < (k : Int) := by omega
      have HC := Lib.hid (show wrap64 ((bs.length : Int) + 1) = (bs.length : Int) + 1 from wrap64_in (by omega) (by omega))
      have HB := Lib.hid (fun b => @Nat.le_trans _ _ b HX.out.sit.up.size)
      have hd := wa_1
      go_wp2_with (first
        | (go_at_call 27; (with_reducible refine (adBegin HX.out.count).mono ?_); rintro r w2 ⟨b, rfl, b1, b2, O, P2, S2, U2⟩; have HO := Lib.hid O; have HP2 := Lib.hid P2; have HS2 := Lib.hid S2; have HU2 := Lib.hid U2; have HB1 := Lib.hid b1; have HB2 := Lib.hid b2; have HBB := Lib.hid (HB.out _ b1); clear O P2 S2 U2 b1 b2)
        | (go_at_call 23; (with_reducible refine (adStep_to HS2.out HO.out HBB.out HP2.out f_no wx_1 wa_1 HC.out).mono ?_); rintro r w3 ⟨rfl, G3⟩; have HG3 := Lib.hid G3; clear G3)
        | (at_builtin; refine wpList_ptr (b := b) rfl _ _ rfl rfl rfl (HX.out.row3 HU2.out HB1.out HG3.out) (by omega) ?_; intro r cp w4 J4 G4 A4; have HX4 := Lib.hid (HX.out.push (by omega) HU2.out HB1.out HB2.out HO.out rfl HG3.out J4 G4 A4); clear J4 G4 A4))
      go_roundw
      case rel => exact ⟨bs ++ [b], by simp, by simp; omega, HX4.out⟩
      case measure => simp [intOf]; omega
    · have i1 : ¬ (bs.length : Int) < (k : Int) := by omega
      obtain rfl : bs.length = k := by omega
      obtain ⟨r, cp, e⟩ := HX.out.shape (by omega)
      injection e with e1 _ e3
      subst e1 e3
      clear HS1
      go_wp2_with fail
      go_loopw [12] (fun i wr => WinB wA p g q (.slice (some ⟨r, 0, none⟩) bs.length cap) bs len1 i wr) (fun i _ => len1 - (intOf i).toNat)
      case atStart => exact ⟨0, _, _, rfl, Nat.zero_le _, HX.out⟩
      case round =>
        obtain ⟨j, m, x, rfl, hj, X⟩ := hrel
        have HX2 := Lib.hid X
        clear X
        have j0 : (0 : Int) ≤ (j : Int) := Int.natCast_nonneg _
        by_cases hlt : j < len1
        · have j1 : (j : Int) < (len1 : Int) := by omega
          obtain ⟨bl, off, rfl, hb, hc⟩ := row_cell HW1.out hlt
          replace hc := (HUA.out.trans HX2.out.sit.up).kept hc
          obtain ⟨z, hz⟩ : ∃ z, z1.getD j 0 = z := ⟨_, rfl⟩
          rw [hz] at hc
          clear hz
          obtain ⟨u', hu', _, u0, u1⟩ := emod_letter z (bs.length : Int) (by omega)
          obtain ⟨u, rfl⟩ : ∃ u : Nat, u' = u := ⟨u'.toNat, by omega⟩
          obtain ⟨b, hbu, hbc⟩ := HX2.out.at_ (u := u) (by omega)
          have HU := Lib.hid hu'
          have HBU := Lib.hid hbu
          have hk0 := Lib.hid (show (0 : Int) < (bs.length : Int) by omega)
          have hk1 := Lib.hid (show (bs.length : Int) < 9223372036854775808 by omega)
          clear hu' hbu
          go_wp2_with (first
            | (go_at_call 12; (with_reducible refine (number_is HU.out hk0.out hk1.out _).mono ?_); rintro r w' ⟨rfl, rfl⟩)
            | (go_at_call 23; (with_reducible refine (win_step HX2.out HBU.out).mono ?_); rintro r w5 ⟨d, rfl, O5⟩; have HO5 := Lib.hid O5; clear O5))
          go_roundw
          case rel =>
            obtain ⟨a', x', X', _⟩ := HO5.out
            exact ⟨j + 1, _, _, by go_num, by omega, X'⟩
          case measure => simp [intOf]; omega
        · have j1 : ¬ (j : Int) < (len1 : Int) := by omega
          go_wp2_with fail
          go_loopw [13, 14] (fun wn i wr => WinC wA p g q (.slice (some ⟨r, 0, none⟩) bs.length cap) bs wn i wr) (fun _ i _ => bs.length - (intOf i).toNat)
          case atStart => exact ⟨0, _, _, rfl, Nat.zero_le _, rfl, fun i hi => absurd hi (Nat.not_lt_zero _), HX2.out⟩
          case round =>
            obtain ⟨n, m3, x3, rfl, hn, rfl, h5, X⟩ := hrel
            have HX3 := Lib.hid X
            have H5 := Lib.hid h5
            clear X h5
            have n0 : (0 : Int) ≤ (n : Int) := Int.natCast_nonneg _
            obtain ⟨wn, hwn⟩ : ∃ wn, sumA (fun i => wonN (m3 i)) n = wn := ⟨_, rfl⟩
            rw [hwn]
            by_cases hlt3 : n < bs.length
            · have n1 : (n : Int) < (bs.length : Int) := by omega
              have HWN := Lib.hid hwn
              clear hwn
              go_wp2_with fail
              go_loopw [15] (fun s wr => WinD wA p g q (.slice (some ⟨r, 0, none⟩) bs.length cap) bs n wn s wr) (fun s _ => 6 - (intOf s).toNat)
              case atStart => exact ⟨0, _, _, rfl, by omega, HWN.out, H5.out, .inr (by have := (HX3.out.st n hlt3).2.1; omega), HX3.out⟩
              case round =>
                obtain ⟨t, m4, x4, rfl, ht, hw4, h54, hlast, X⟩ := hrel
                have HX4 := Lib.hid X
                have HW4 := Lib.hid hw4
                have H54 := Lib.hid h54
                have HLA := Lib.hid hlast
                clear X hw4 h54 hlast
                have t0 : (0 : Int) ≤ (t : Int) := Int.natCast_nonneg _
                obtain ⟨b, hbu, hbc⟩ := HX4.out.at_ (u := n) hlt3
                have HBU := Lib.hid hbu
                clear hbu
                by_cases hlt4 : t < 6
                · have t1 : (t : Int) < 6 := by omega
                  go_wp2_with (go_at_call 23; (with_reducible refine (win_step HX4.out HBU.out).mono ?_); rintro r w5 ⟨d, rfl, O5⟩; have HO5 := Lib.hid O5; clear O5)
                  go_roundw
                  case rel => exact win_d hlt3 HW4.out H54.out HLA.out HO5.out hlt4
                  case measure => simp [intOf]; omega
                · have t1 : ¬ (t : Int) < 6 := by omega
                  obtain ⟨s1, s2, s3, s4, s5⟩ := HX4.out.st n hlt3
                  have s6 : (m4 n).i = 5 := by have := HLA.out; omega
                  have HDN := Lib.hid (s4.2 s6)
                  have HM := Lib.hid (HX4.out.mach n b HBU.out).1
                  have HFV := Lib.hid (show ∀ i, i < n + 1 → (m4 i).i = 5 from fun i hi => by
                    by_cases e : i = n
                    · rw [e]; exact s6
                    · exact H54.out i (by omega))
                  clear s1 s2 s3 s4 s5 s6
                  have wb : 0 ≤ wn ∧ wn ≤ 5 := by
                    have key : ∀ j, j ≤ bs.length → 0 ≤ sumA (fun i => wonN (m4 i)) j ∧ sumA (fun i => wonN (m4 i)) j ≤ j := by
                      intro j
                      induction j with
                      | zero => intro _; simp [sumA]
                      | succ j ih =>
                        intro hj
                        have h1 := ih (by omega)
                        have h2 : 0 ≤ wonN (m4 j) ∧ wonN (m4 j) ≤ 1 := by unfold wonN; split <;> omega
                        show 0 ≤ sumA (fun i => wonN (m4 i)) j + wonN (m4 j) ∧ sumA (fun i => wonN (m4 i)) j + wonN (m4 j) ≤ ((j + 1 : Nat) : Int)
                        omega
                    have := key n (by omega)
                    rw [HW4.out] at this
                    omega
                  obtain ⟨wb0, wb1⟩ := wb
                  cases hwon : (m4 n).won
                  · have HWO := Lib.hid hwon
                    have HSM := Lib.hid (show sumA (fun i => wonN (m4 i)) (n + 1) = wn by
                      show sumA (fun i => wonN (m4 i)) n + wonN (m4 n) = wn
                      rw [HW4.out]; unfold wonN; rw [hwon]; simp)
                    clear hwon
                    go_wp2_with (first
                      | (go_at_call 24; (with_reducible refine (adDone HM.out HDN.out).mono ?_); rintro r w6 ⟨rfl, rfl⟩)
                      | (go_at_call 28; (with_reducible refine (adWon HM.out HWO.out).mono ?_); rintro r w6 ⟨rfl, rfl⟩))
                    go_roundw
                    case rel => exact ⟨n + 1, m4, x4, by go_num, by omega, by rw [HSM.out], HFV.out, HX4.out⟩
                    case measure => simp [intOf]; omega
                  · have HWO := Lib.hid hwon
                    have HSM := Lib.hid (show sumA (fun i => wonN (m4 i)) (n + 1) = wn + 1 by
                      show sumA (fun i => wonN (m4 i)) n + wonN (m4 n) = wn + 1
                      rw [HW4.out]; unfold wonN; rw [hwon]; rfl)
                    clear hwon
                    go_wp2_with (first
                      | (go_at_call 24; (with_reducible refine (adDone HM.out HDN.out).mono ?_); rintro r w6 ⟨rfl, rfl⟩)
                      | (go_at_call 28; (with_reducible refine (adWon HM.out HWO.out).mono ?_); rintro r w6 ⟨rfl, rfl⟩))
                    go_roundw
                    case rel => exact ⟨n + 1, m4, x4, by go_num, by omega, by rw [HSM.out], HFV.out, HX4.out⟩
                    case measure => simp [intOf]; omega
            · have n1 : ¬ (n : Int) < (bs.length : Int) := by omega
              obtain rfl : n = bs.length := by omega
              obtain ⟨rfl, hs1, S⟩ := HX3.out.over H5.out (by omega)
              rw [hwn] at hs1
              subst hs1
              have HS := Lib.hid S
              have HE := Lib.hid (show epN (([1, 0, 0, 0] : List Int).getD 0 0) = 1 by decide)
              clear S hwn
              go_wp2_with (first
                | (go_at_call 18; (with_reducible refine (now_to HS.out HE.out).mono ?_); rintro r w6 ⟨rfl, U6⟩; have HS6 := Lib.hid (HS.out.ups U6); clear U6)
                | (go_at_call 17; (with_reducible refine (counts HS6.out).mono ?_); rintro r w7 ⟨rfl, rfl⟩))
              go_ret
              exact ⟨rfl, HUA.out.trans HS6.out.up⟩

set_option maxRecDepth 100000 in
theorem lifted (os : Os) (started : os.Started) (H : Type) (enc : TypeId × Value → H) :
    ReturnsInHanded {} Try.checked os 5 .any (Rows.epochWinsSpec.pre6 enc Try.prog Try.f5 Rows.epochWinsRow.domain false) (Rows.epochWinsSpec.post enc Try.prog Try.f5 false true false false) := by
  refine returnsInHanded_of_change (C := Try.checked) own started (by kernel_rfl) Try.func5
    (ChangeSpec.witness6 (enc := enc) (C := Try.checked) false ⟨#[], #[.int .i64 0, .slice none 0 0], []⟩ 8 (by kernel_rfl) (by kernel_rfl) (by kernel_rfl) (by kernel_rfl)) ?_
  intro W base args ds gs before hval0 hW hcnd _
  have hval : ∀ (j : Nat) t v, Try.f5.params[j]? = some t → args[j]? = some v → Value.okWide Try.prog W .any base t v := hval0
  have hW' := hW
  obtain ⟨p, q, hA0, hV, rfl, hfz, hnd⟩ := hW
  have hA : DataW.TrodAll enc Try.prog W 0 (fun _ => true) true Try.f5.params.toList args.toList ds p := hA0
  rw [Try.params5] at hA hval
  obtain ⟨v0, vs0, d0, ds0, p0, q0, hargs, rfl, rfl, h0, r0⟩ := trodAll_cons hA
  obtain ⟨v1, vs1, d1, ds1, p1, q1, rfl, rfl, rfl, h1, r1⟩ := trodAll_cons r0
  obtain ⟨rfl, rfl, rfl⟩ := trodAll_nil r1
  obtain rfl : args = #[v0, v1] := by cases args; simp_all
  obtain ⟨rfl, rfl⟩ := trodVars_none hV
  have k0 := h0
  have lt0 : ∀ x ∈ p0, x.block < W.heap.size := by obtain ⟨m, hm⟩ := k0; exact DataW.trod_lt m _ _ _ hm
  obtain ⟨a0, rfl, rfl, rfl, w0⟩ := open_int Try.underlying3 (hval 0 3 v0 rfl rfl) h0
  have k1 := h1
  have lt1 : ∀ x ∈ p1, x.block < W.heap.size := by obtain ⟨m, hm⟩ := k1; exact DataW.trod_lt m _ _ _ hm
  obtain ⟨a1, len1, cap1, rfl⟩ := okWide_slice Try.underlying24 (hval 1 24 v1 rfl rfl)
  obtain ⟨z1, w1⟩ : ∃ zs, IsRow .i64 W a1 len1 cap1 zs := by
    obtain ⟨fuel, hf⟩ := h1
    rcases open_ints Try.underlying24 Try.underlying3 (by kernel_rfl) hf with ⟨hcs, _⟩ | ⟨x, l, c, zs, hcs, _, hl, hm, hz, _, hcell, hwz⟩
    · simp [Value.cells] at hcs
      obtain ⟨rfl, rfl, rfl⟩ := hcs
      exact ⟨[], .inl ⟨rfl, rfl, rfl, rfl⟩⟩
    · simp [Value.cells] at hcs
      obtain ⟨rfl, rfl, rfl⟩ := hcs
      exact ⟨zs, .inr ⟨_, rfl, hl, hm, by simpa using hz, hcell, hwz⟩⟩
  clear hA0 hval0
  refine (walk a0 a1 len1 cap1 z1 W w0 w1).mono fun e W' ⟨he, bel⟩ => ?_
  subst he
  exact ⟨_, rfl, _, _, _, [], _, [], hW', trodAll_mk1 (shut_bool Try.underlying4 _), (trodAll_cons_mk (Below.trod laidOut (by kernel_rfl) (of_decide_eq_true (by kernel_rfl)) k0 bel lt0) (trodAll_cons_mk (Below.trod laidOut (by kernel_rfl) (of_decide_eq_true (by kernel_rfl)) k1 bel lt1) trodAll_mk0)), rfl, Below.frame bel _, fun h => by cases h⟩

theorem over : Rows.epochWinsRow.holds Try.pinned (OpenSpec.ofChange Rows.epochWinsSpec) :=
  OpenClaim.holds_of_wide 5 Try.f5 rfl rfl rfl rfl rfl rfl rfl ⟨rfl, rfl, rfl, rfl, rfl⟩ rfl rfl rfl rfl rfl (by kernel_rfl) Try.func5 (by kernel_rfl)
    (of_decide_eq_true (by kernel_rfl)) (by unfold Func.isWrapper; first | (rw [if_pos (by decide +kernel)]; kernel_rfl) | (rw [if_neg (by decide +kernel)]; exact ⟨rfl, rfl⟩))
    (fun os started H enc _ => lifted os started H enc)

/-- THE STATEMENT -/
theorem proved : Rows.EpochWinsSaid := over
#print axioms proved
end Go.Proofs.Ytngaokhlcdlpfaa.epochWins
