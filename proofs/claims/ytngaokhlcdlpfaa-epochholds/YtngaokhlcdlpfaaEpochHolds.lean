/-
  EpochHolds of layer 9: while one is pinned the epoch goes on by one at most, whatever three others do, however their steps fall between; for all numbers and every row of numbers.
-/
import Derived.Test.YtngaokhlcdlpfaaRows
import Derived.Test.YtngaokhlcdlpfaaEpHold2
import Derived.WalkKit
import Derived.ProofKit
import Derived.OpenShut
import Derived.ShutString
import Derived.ChangeOld
import Derived.Below
import Derived.Carry
import Derived.Lib.SmallJoins
import Derived.OwnWalk
import Derived.BigQuiet
namespace Go.Proofs.Ytngaokhlcdlpfaa.epochHolds
open Go.ChangeShapes Go.WideShapes Go.ChangeAt Go.RowKit Go.Joins Go.Proofs.Ytngaokhlcdlpfaa W64
open Go.ChangeMaps (open_string shut_string)
set_option linter.unusedVariables false

theorem own : ownKnob Try.prog.godebug = none := by kernel_rfl
theorem laidOut : laidOutB Try.prog = true := by kernel_rfl

theorem quo4 {z : Int} (h : (Lit.int .i64 z).wf = true) : IntKind.i64.wrap (z.tdiv 4) = z.tdiv 4 ∧ wrap64 (z.tdiv 4) = z.tdiv 4 := by
  have := W64.i64_in h
  have h2 : -9223372036854775808 ≤ z.tdiv 4 ∧ z.tdiv 4 < 9223372036854775808 := by
    rcases Int.le_total 0 z with h | h
    · rw [Int.tdiv_eq_ediv_of_nonneg h]; omega
    · have e : z.tdiv 4 = -((-z).tdiv 4) := by rw [Int.neg_tdiv]; omega
      rw [e, Int.tdiv_eq_ediv_of_nonneg (by omega)]; omega
  exact ⟨IntWalk.i64_in _ (by omega), wrap64_in h2.1 h2.2⟩
theorem row_mem {zs : List Int} {k : Nat} (h : k < zs.length) : zs.getD k 0 ∈ zs := by simp [List.getD, h]
theorem row_wf {w : World} {a : Option Addr} {len cap : Nat} {zs : List Int} (h : IsRow .i64 w a len cap zs) {k : Nat} (hk : k < len) : (Lit.int .i64 (zs.getD k 0)).wf = true := by
  rcases h with ⟨_, rfl, _, _⟩ | ⟨x, _, hl, hm, hz, _, hw⟩
  · omega
  · exact hw _ (row_mem (by omega))
theorem one_two {E : Int} : decide ((⟨1, E⟩ : En).i = 2) = false := rfl
theorem two_two {E : Int} : decide ((⟨2, E⟩ : En).i = 2) = true := rfl
theorem enBegin0 {W w : World} {p g q n : Nat} {xs : List Int} {c : Int} (S : Sit W w p g q n xs c) :
    Calls Try.prog 20 #[.pointer (some ⟨q, 0, none⟩), .int .i64 0] w fun r w' => ∃ b, r = .returned (.tuple #[.pointer (some ⟨b, 0, none⟩), .int .i64 0]) ∧ w.heap.size ≤ b ∧ b < w'.heap.size ∧ Off b p g q ∧ EnM w' b q 0 ⟨0, 0⟩ ∧ Sit W w' p g q n xs c ∧ Up w w' :=
  enBegin (wk := 0) S (by have := S.len; omega)
theorem hold_start {W w : World} {p g q bn : Nat} (S : Sit W w p g q 4 [0, 0, 0, 0, 0] 0) (P : EnM w bn q 0 ⟨0, 0⟩) (h : W.heap.size ≤ bn) : Hold W w p g q bn (fun _ => .pointer none) (fun _ => .pointer none) ⟨0, 0⟩ 0 (-1) 0 :=
  ⟨⟨_, _, S, rfl, by simp⟩, P, h, by simp, by simp, fun _ => rfl, by decide, by decide, by decide, fun _ _ => .inl rfl, fun _ _ => .inl rfl, fun _ _ _ _ _ k => absurd k ptr_ne, fun _ _ _ _ _ k => absurd k ptr_ne, fun _ _ k => ptr_ne k⟩
theorem arr_start {W w : World} (h : W.heap.size ≤ w.heap.size) : Arr W ((w.alloc (.cells #[.pointer none, .pointer none, .pointer none, .pointer none] 42)).alloc (.cells #[.pointer none, .pointer none, .pointer none, .pointer none] 46)) w.heap.size (w.heap.size + 1) (fun _ => .pointer none) (fun _ => .pointer none) := by
  refine ⟨(Whole.new w _ _).alloc _, ?_, h, by omega⟩
  have := Whole.new (w.alloc (.cells #[.pointer none, .pointer none, .pointer none, .pointer none] 42)) 46 #[.pointer none, .pointer none, .pointer none, .pointer none]
  simpa [four] using this

set_option maxHeartbeats 8000000 in
set_option maxRecDepth 100000 in
theorem walk (a0 : Int) (a1 : Option Addr) (len1 cap1 : Nat) (z1 : List Int) (w : World) (w0 : (Lit.int .i64 a0).wf = true) (w1 : IsRow .i64 w a1 len1 cap1 z1) :
    Calls Try.prog 4 #[.int .i64 a0, .slice a1 len1 cap1] w fun e w' => e = .returned (.bool true) ∧ Up w w' := by
  have HW1 := Lib.hid w1
  have hm := row_len w1
  unfold maxLen at hm
  clear w0 w1
  by_cases hlen : len1 ≤ 120
  rotate_left
  · have hl2 : (120 : Int) < (len1 : Int) := by omega
    go_enter Try.func4, Try.ntmps4
    go_wp2_with (go_at_call 8; refine (first_any _).mono ?_; rintro r wA ⟨rfl, UA⟩)
    go_ret
    exact ⟨rfl, UA⟩
  have hl2 : ¬ (120 : Int) < (len1 : Int) := by omega
  obtain ⟨y, hy, _, y0, y1⟩ := emod_letter a0 100 (by decide)
  have HY := Lib.hid hy
  have H4 := Lib.hid (show (4 : Int) = ((4 : Nat) : Int) from rfl)
  clear hy
  go_enter Try.func4, Try.ntmps4
  go_wp2_with (first
    | (go_at_call 8; refine (first_any _).mono ?_; rintro r wA ⟨rfl, UA⟩; have HUA := Lib.hid UA; clear UA)
    | (go_at_call 12; (with_reducible refine (number_is HY.out (by decide) (by decide) _).mono ?_); rintro r w' ⟨rfl, rfl⟩)
    | (go_at_call 9; (with_reducible refine (made_is H4.out (by decide) (by decide) _).mono ?_); rintro r w1 ⟨p, g, q, rfl, S1⟩; have HS1 := Lib.hid (show Sit wA w1 p g q 4 [0, 0, 0, 0, 0] 0 from S1); clear S1)
    | (go_at_call 20; (with_reducible refine (enBegin0 HS1.out).mono ?_); rintro r w2 ⟨bn, rfl, b1, b2, O, P2, S2, U2⟩; have HH0 := Lib.hid (hold_start S2 P2 (Nat.le_trans HS1.out.up.size b1)); have hz := S2.up.size; clear O P2 S2 U2 b1 b2))
  have HAR := Lib.hid (arr_start hz)
  have HH1 := Lib.hid (HH0.out.up ((Up.alloc w2 (.cells #[.pointer none, .pointer none, .pointer none, .pointer none] 42)).then_alloc (.cells #[.pointer none, .pointer none, .pointer none, .pointer none] 46)))
  generalize hw3 : (w2.alloc (.cells #[.pointer none, .pointer none, .pointer none, .pointer none] 42)).alloc (.cells #[.pointer none, .pointer none, .pointer none, .pointer none] 46) = w3 at *
  obtain ⟨bE, hbE⟩ : ∃ bE, w2.heap.size = bE := ⟨_, rfl⟩
  rw [hbE] at HAR ⊢
  obtain ⟨bA, hbA⟩ : ∃ bA, bE + 1 = bA := ⟨_, rfl⟩
  rw [hbA] at HAR ⊢
  clear hw3 hbE hbA hz
  go_loopw [13, 14] (fun a i wr => HoldRel wA p g q bn bE bA len1 a i wr) (fun _ i _ => len1 - (intOf i).toNat)
  case atStart => exact ⟨0, _, _, _, _, _, rfl, Nat.zero_le _, rfl, HH1.out, HAR.out⟩
  case round =>
    obtain ⟨j, at_, E, ve, va, e0, rfl, hj, rfl, H, A⟩ := hrel
    have HH := Lib.hid H
    have HA := Lib.hid A
    have few := H.few
    clear H A HH0 HH1 HAR
    have j0 : (0 : Int) ≤ (j : Int) := Int.natCast_nonneg _
    by_cases hlt : j < len1
    rotate_left
    · have j1 : ¬ (j : Int) < (len1 : Int) := by omega
      go_wp2_with fail
      go_ret
      obtain ⟨_, _, S, _⟩ := HH.out.sit
      exact ⟨rfl, HUA.out.trans S.up⟩
    have j1 : (j : Int) < (len1 : Int) := by omega
    obtain ⟨bl, off, rfl, hb, hc⟩ := row_cell HW1.out hlt
    have hwf := row_wf HW1.out hlt
    replace hc := HUA.out.kept hc
    replace hc := (show Up wA wr from by obtain ⟨_, _, S, _⟩ := HH.out.sit; exact S.up).kept hc
    obtain ⟨z, hz⟩ : ∃ z, z1.getD j 0 = z := ⟨_, rfl⟩
    rw [hz] at hc hwf
    clear hz
    obtain ⟨q1, q2⟩ := quo4 hwf
    clear hwf
    obtain ⟨u', hu', _, u0, u1⟩ := emod_letter z 4 (by decide)
    obtain ⟨u, rfl⟩ : ∃ u : Nat, u' = u := ⟨u'.toNat, by omega⟩
    obtain ⟨v, hv, _, v0, v1⟩ := emod_letter (z.tdiv 4) 6 (by decide)
    have HU' := Lib.hid hu'
    have HV := Lib.hid hv
    have hu4 : u < 4 := by omega
    clear hu' hv
    have k1 := HA.out.e.cell (four_get hu4)
    have k2 := HA.out.a.cell (four_get hu4)
    have g1 := HA.out.e.frozen u
    have g2 := HA.out.a.frozen u
    by_cases hu0 : u = 0
    · subst hu0
      have HU := Lib.hid (show z % 4 = 0 from HU'.out)
      by_cases hbg : (j : Int) < y
      · go_wp2_with (first
          | (go_at_call 12; (with_reducible refine (number_is HU.out (by decide) (by decide) _).mono ?_); rintro r w' ⟨rfl, rfl⟩))
        go_roundw
        case rel => exact ⟨j + 1, at_, E, _, _, _, by go_num, by omega, rfl, (HH.out.grow (by omega) (by omega)), HA.out⟩
        case measure => simp [intOf]; omega
      rcases (show e0.i = 0 ∨ e0.i = 1 ∨ e0.i = 2 by have := HH.out.en0.top; omega) with h0 | h0 | h0
      · obtain rfl : at_ = -1 := HH.out.at1 (by omega)
        have HD0 := Lib.hid (show decide (e0.i = 2) = false from decide_eq_false (by omega))
        have H0 := Lib.hid h0
        go_wp2_with (first
          | (go_at_call 12; (with_reducible refine (number_is HU.out (by decide) (by decide) _).mono ?_); rintro r w' ⟨rfl, rfl⟩)
          | (go_at_call 21; (with_reducible refine (enDone HH.out.en0 HD0.out).mono ?_); rintro r w' ⟨rfl, rfl⟩)
          | (go_at_call 22; (with_reducible refine (hold_load HH.out H0.out).mono ?_); rintro r w5 ⟨rfl, T5, E5⟩; have HT := Lib.hid T5; have AT := Lib.hid (HA.out.keep (HH.out.keep HH.out.en0.row (by decide) (by decide) E5)); clear T5 E5)
          | (go_at_call 21; (with_reducible refine (enDone HT.out.en0 one_two).mono ?_); rintro r w' ⟨rfl, rfl⟩))
        go_roundw
        case rel => exact ⟨j + 1, (-1), E, _, _, _, by go_num, by omega, rfl, (HT.out.grow (by omega) (by omega)), AT.out⟩
        case measure => simp [intOf]; omega
      · obtain rfl : at_ = -1 := HH.out.at1 (by omega)
        have HD0 := Lib.hid (show decide (e0.i = 2) = false from decide_eq_false (by omega))
        have H0 := Lib.hid h0
        have b1 := HH.out.lo
        have b2 := HH.out.hi
        go_wp2_with (first
          | (go_at_call 12; (with_reducible refine (number_is HU.out (by decide) (by decide) _).mono ?_); rintro r w' ⟨rfl, rfl⟩)
          | (go_at_call 21; (with_reducible refine (enDone HH.out.en0 HD0.out).mono ?_); rintro r w' ⟨rfl, rfl⟩)
          | (go_at_call 22; (with_reducible refine (hold_pin HH.out H0.out).mono ?_); rintro r w5 ⟨rfl, T5, E5⟩; have HTa := Lib.hid T5; have ATa := Lib.hid (HA.out.keep (HH.out.keep HH.out.en0.row (by decide) (by decide) E5)); clear T5 E5)
          | (go_at_call 21; (with_reducible refine (enDone HTa.out.en0 two_two).mono ?_); rintro r w' ⟨rfl, rfl⟩)
          | (go_at_call 18; (with_reducible refine (hold_now HTa.out).mono ?_); rintro r w7 ⟨rfl, U7⟩; have HT := Lib.hid (HTa.out.up U7); have AT := Lib.hid (ATa.out.keep (Keep.of_up U7)); clear U7)
          | (go_at_call 18; (with_reducible refine (hold_now HT.out).mono ?_); rintro r w8 ⟨rfl, U8⟩; have HT8 := Lib.hid (HT.out.up U8); have AT8 := Lib.hid (AT.out.keep (Keep.of_up U8)); clear U8)
          | (go_at_call 18; (with_reducible refine (hold_now HT8.out).mono ?_); rintro r w9 ⟨rfl, U9⟩; have HT9 := Lib.hid (HT8.out.up U9); have AT9 := Lib.hid (AT8.out.keep (Keep.of_up U9)); clear U9))
        go_roundw
        case rel => exact ⟨j + 1, E, E, _, _, _, by go_num, by omega, rfl, (HT9.out.grow (by omega) (by omega)), AT9.out⟩
        case measure => simp [intOf]; omega
      · have HD0 := Lib.hid (show decide (e0.i = 2) = true from decide_eq_true h0)
        go_wp2_with (first
          | (go_at_call 12; (with_reducible refine (number_is HU.out (by decide) (by decide) _).mono ?_); rintro r w' ⟨rfl, rfl⟩)
          | (go_at_call 21; (with_reducible refine (enDone HH.out.en0 HD0.out).mono ?_); rintro r w' ⟨rfl, rfl⟩))
        go_roundw
        case rel => exact ⟨j + 1, at_, E, _, _, _, by go_num, by omega, rfl, (HH.out.grow (by omega) (by omega)), HA.out⟩
        case measure => simp [intOf]; omega
    have HU := HU'
    have hu1 : ¬ (u : Int) = 0 := by omega
    rcases HH.out.hA u hu4 with hva | ⟨b, a, hva, hP, hf, hlb, k5, k6⟩
    rotate_left
    · rw [hva] at k2
      by_cases hp : e0.i = 2
      · obtain ⟨t1, t2, t3⟩ := HH.out.at2 hp
        have tz : 0 ≤ at_ := by have := (HH.out.ep0 (by omega)).1; omega
        have HK5 := Lib.hid k5
        have HK6 := Lib.hid k6
        have HP := Lib.hid hP
        have HF := Lib.hid hf
        have HL := Lib.hid hlb
        have HVA := Lib.hid hva
        have HJ := Lib.hid (show j < 120 by omega)
        clear k5 k6 hP hf hlb hva
        go_upto_region 28 with (first
          | (go_at_call 12; (with_reducible refine (number_is HU.out (by decide) (by decide) _).mono ?_); rintro r w' ⟨rfl, rfl⟩)
          | (go_at_call 23; (with_reducible refine (hold_adv HH.out hu4 HVA.out HP.out HF.out HL.out HK5.out HK6.out HJ.out).mono ?_); rintro r w5 ⟨rfl, O5, K5⟩; have HO := Lib.hid O5; have AK := Lib.hid (HA.out.keep K5); clear O5 K5))
        have c2 := AK.out.a.cell (four_get hu4)
        rw [HVA.out] at c2
        have f2 := AK.out.a.frozen u
        rcases HO.out with ⟨a', E', P', hf', T'⟩ | ⟨a', E', P', hf', T'⟩
        · have HP5 := Lib.hid P'
          have HF5 := Lib.hid hf'
          have HT := Lib.hid T'
          have AT := AK
          obtain ⟨s1, s2, s3⟩ := T'.at2 hp
          have s4 := T'.hi
          have s5 := T'.lo
          clear P' hf' T'
          go_wp2_with (first
            | (go_at_call 24; (with_reducible refine (adDone HP5.out HF5.out).mono ?_); rintro r w' ⟨rfl, rfl⟩)
            | (go_at_call 18; (with_reducible refine (hold_now HT.out).mono ?_); rintro r w8 ⟨rfl, U8⟩; have HT8 := Lib.hid (HT.out.up U8); have AT8 := Lib.hid (AT.out.keep (Keep.of_up U8)); clear U8)
            | (go_at_call 18; (with_reducible refine (hold_now HT8.out).mono ?_); rintro r w9 ⟨rfl, U9⟩; have HT9 := Lib.hid (HT8.out.up U9); have AT9 := Lib.hid (AT8.out.keep (Keep.of_up U9)); clear U9))
          go_roundw
          case rel => exact ⟨j + 1, at_, E', _, _, _, by go_num, by omega, rfl, HT9.out, AT9.out⟩
          case measure => simp [intOf]; omega
        · have HP5 := Lib.hid P'
          have HF5 := Lib.hid hf'
          have HT := Lib.hid (T'.storeA AK.out u (.pointer none))
          have AT := Lib.hid (AK.out.setA hu4 (.pointer none))
          obtain ⟨s1, s2, s3⟩ := T'.at2 hp
          have s4 := T'.hi
          have s5 := T'.lo
          clear P' hf' T'
          go_wp2_with (first
            | (go_at_call 24; (with_reducible refine (adDone HP5.out HF5.out).mono ?_); rintro r w' ⟨rfl, rfl⟩)
            | (go_at_call 18; (with_reducible refine (hold_now HT.out).mono ?_); rintro r w8 ⟨rfl, U8⟩; have HT8 := Lib.hid (HT.out.up U8); have AT8 := Lib.hid (AT.out.keep (Keep.of_up U8)); clear U8)
            | (go_at_call 18; (with_reducible refine (hold_now HT8.out).mono ?_); rintro r w9 ⟨rfl, U9⟩; have HT9 := Lib.hid (HT8.out.up U9); have AT9 := Lib.hid (AT8.out.keep (Keep.of_up U9)); clear U9))
          go_roundw
          case rel => exact ⟨j + 1, at_, E', _, _, _, by go_num, by omega, rfl, HT9.out, AT9.out⟩
          case measure => simp [intOf]; omega
      · obtain rfl : at_ = -1 := HH.out.at1 hp
        have HK5 := Lib.hid k5
        have HK6 := Lib.hid k6
        have HP := Lib.hid hP
        have HF := Lib.hid hf
        have HL := Lib.hid hlb
        have HVA := Lib.hid hva
        have HJ := Lib.hid (show j < 120 by omega)
        clear k5 k6 hP hf hlb hva
        go_upto_region 28 with (first
          | (go_at_call 12; (with_reducible refine (number_is HU.out (by decide) (by decide) _).mono ?_); rintro r w' ⟨rfl, rfl⟩)
          | (go_at_call 23; (with_reducible refine (hold_adv HH.out hu4 HVA.out HP.out HF.out HL.out HK5.out HK6.out HJ.out).mono ?_); rintro r w5 ⟨rfl, O5, K5⟩; have HO := Lib.hid O5; have AK := Lib.hid (HA.out.keep K5); clear O5 K5))
        have c2 := AK.out.a.cell (four_get hu4)
        rw [HVA.out] at c2
        have f2 := AK.out.a.frozen u
        rcases HO.out with ⟨a', E', P', hf', T'⟩ | ⟨a', E', P', hf', T'⟩
        · have HP5 := Lib.hid P'
          have HF5 := Lib.hid hf'
          have HT := Lib.hid T'
          have AT := AK
          clear P' hf' T'
          go_wp2_with (first
            | (go_at_call 24; (with_reducible refine (adDone HP5.out HF5.out).mono ?_); rintro r w' ⟨rfl, rfl⟩))
          go_roundw
          case rel => exact ⟨j + 1, (-1), E', _, _, _, by go_num, by omega, rfl, HT.out, AT.out⟩
          case measure => simp [intOf]; omega
        · have HP5 := Lib.hid P'
          have HF5 := Lib.hid hf'
          have HT := Lib.hid (T'.storeA AK.out u (.pointer none))
          have AT := Lib.hid (AK.out.setA hu4 (.pointer none))
          clear P' hf' T'
          go_wp2_with (first
            | (go_at_call 24; (with_reducible refine (adDone HP5.out HF5.out).mono ?_); rintro r w' ⟨rfl, rfl⟩))
          go_roundw
          case rel => exact ⟨j + 1, (-1), E', _, _, _, by go_num, by omega, rfl, HT.out, AT.out⟩
          case measure => simp [intOf]; omega
    rw [hva] at k2
    rcases HH.out.hE u hu4 with hve | ⟨b, e, hve, hP, hi, hlb⟩
    rotate_left
    · rw [hve] at k1
      rcases (show e.i = 0 ∨ e.i = 1 by omega) with hi | hi
      · by_cases hp : e0.i = 2
        · obtain ⟨t1, t2, t3⟩ := HH.out.at2 hp
          have tz : 0 ≤ at_ := by have := (HH.out.ep0 (by omega)).1; omega
          have HP := Lib.hid hP
          have HI := Lib.hid hi
          have HL := Lib.hid hlb
          have HVE := Lib.hid hve
          have HU0 := Lib.hid (show 0 < u by omega)
          have b1 := HH.out.lo
          have b2 := HH.out.hi
          clear hP hi hlb hve
          go_upto_region 32 with (first
            | (go_at_call 12; (with_reducible refine (number_is HU.out (by decide) (by decide) _).mono ?_); rintro r w' ⟨rfl, rfl⟩)
            | (go_at_call 22; (with_reducible refine (hold_enter0 HH.out hu4 HVE.out HP.out HL.out HI.out).mono ?_); rintro r w5 ⟨rfl, M5, T5, E5⟩; have HM5 := Lib.hid M5; have HTa := Lib.hid T5; have AK := Lib.hid (HA.out.keep (HH.out.keep HP.out.row (by decide) (by decide) E5)); clear M5 T5 E5))
          have c1 := AK.out.e.cell (four_get hu4)
          rw [HVE.out] at c1
          have f1 := AK.out.e.frozen u
          obtain ⟨e', P', hi'⟩ := HM5.out
          have HP5 := Lib.hid P'
          have HDD := Lib.hid (show decide (e'.i = 2) = false from decide_eq_false (by omega))
          clear P' hi'
          have HT := HTa
          have AT := AK
          go_wp2_with (first
            | (go_at_call 21; (with_reducible refine (enDone HP5.out HDD.out).mono ?_); rintro r w' ⟨rfl, rfl⟩)
            | (go_at_call 18; (with_reducible refine (hold_now HT.out).mono ?_); rintro r w8 ⟨rfl, U8⟩; have HT8 := Lib.hid (HT.out.up U8); have AT8 := Lib.hid (AT.out.keep (Keep.of_up U8)); clear U8)
            | (go_at_call 18; (with_reducible refine (hold_now HT8.out).mono ?_); rintro r w9 ⟨rfl, U9⟩; have HT9 := Lib.hid (HT8.out.up U9); have AT9 := Lib.hid (AT8.out.keep (Keep.of_up U9)); clear U9))
          go_roundw
          case rel => exact ⟨j + 1, at_, E, _, _, _, by go_num, by omega, rfl, (HT9.out.grow (by omega) (by omega)), AT9.out⟩
          case measure => simp [intOf]; omega
        · obtain rfl : at_ = -1 := HH.out.at1 hp
          have HP := Lib.hid hP
          have HI := Lib.hid hi
          have HL := Lib.hid hlb
          have HVE := Lib.hid hve
          have HU0 := Lib.hid (show 0 < u by omega)
          have b1 := HH.out.lo
          have b2 := HH.out.hi
          clear hP hi hlb hve
          go_upto_region 32 with (first
            | (go_at_call 12; (with_reducible refine (number_is HU.out (by decide) (by decide) _).mono ?_); rintro r w' ⟨rfl, rfl⟩)
            | (go_at_call 22; (with_reducible refine (hold_enter0 HH.out hu4 HVE.out HP.out HL.out HI.out).mono ?_); rintro r w5 ⟨rfl, M5, T5, E5⟩; have HM5 := Lib.hid M5; have HTa := Lib.hid T5; have AK := Lib.hid (HA.out.keep (HH.out.keep HP.out.row (by decide) (by decide) E5)); clear M5 T5 E5))
          have c1 := AK.out.e.cell (four_get hu4)
          rw [HVE.out] at c1
          have f1 := AK.out.e.frozen u
          obtain ⟨e', P', hi'⟩ := HM5.out
          have HP5 := Lib.hid P'
          have HDD := Lib.hid (show decide (e'.i = 2) = false from decide_eq_false (by omega))
          clear P' hi'
          have HT := HTa
          have AT := AK
          go_wp2_with (first
            | (go_at_call 21; (with_reducible refine (enDone HP5.out HDD.out).mono ?_); rintro r w' ⟨rfl, rfl⟩))
          go_roundw
          case rel => exact ⟨j + 1, (-1), E, _, _, _, by go_num, by omega, rfl, (HT.out.grow (by omega) (by omega)), AT.out⟩
          case measure => simp [intOf]; omega
      · by_cases hp : e0.i = 2
        · obtain ⟨t1, t2, t3⟩ := HH.out.at2 hp
          have tz : 0 ≤ at_ := by have := (HH.out.ep0 (by omega)).1; omega
          have HP := Lib.hid hP
          have HI := Lib.hid hi
          have HL := Lib.hid hlb
          have HVE := Lib.hid hve
          have HU0 := Lib.hid (show 0 < u by omega)
          have b1 := HH.out.lo
          have b2 := HH.out.hi
          clear hP hi hlb hve
          go_upto_region 32 with (first
            | (go_at_call 12; (with_reducible refine (number_is HU.out (by decide) (by decide) _).mono ?_); rintro r w' ⟨rfl, rfl⟩)
            | (go_at_call 22; (with_reducible refine (hold_enter1 HH.out hu4 HU0.out HVE.out HP.out HL.out HI.out).mono ?_); rintro r w5 ⟨rfl, M5, T5, E5⟩; have HM5 := Lib.hid M5; have HTa := Lib.hid T5; have AK := Lib.hid (HA.out.keep (HH.out.keep HP.out.row (by decide) (by decide) E5)); clear M5 T5 E5))
          have c1 := AK.out.e.cell (four_get hu4)
          rw [HVE.out] at c1
          have f1 := AK.out.e.frozen u
          obtain ⟨e', P', hi'⟩ := HM5.out
          have HP5 := Lib.hid P'
          have HDD := Lib.hid (show decide (e'.i = 2) = true from decide_eq_true (by omega))
          clear P' hi'
          have HT := Lib.hid (HTa.out.storeE AK.out u (.pointer none))
          have AT := Lib.hid (AK.out.setE hu4 (.pointer none))
          go_wp2_with (first
            | (go_at_call 21; (with_reducible refine (enDone HP5.out HDD.out).mono ?_); rintro r w' ⟨rfl, rfl⟩)
            | (go_at_call 18; (with_reducible refine (hold_now HT.out).mono ?_); rintro r w8 ⟨rfl, U8⟩; have HT8 := Lib.hid (HT.out.up U8); have AT8 := Lib.hid (AT.out.keep (Keep.of_up U8)); clear U8)
            | (go_at_call 18; (with_reducible refine (hold_now HT8.out).mono ?_); rintro r w9 ⟨rfl, U9⟩; have HT9 := Lib.hid (HT8.out.up U9); have AT9 := Lib.hid (AT8.out.keep (Keep.of_up U9)); clear U9))
          go_roundw
          case rel => exact ⟨j + 1, at_, E, _, _, _, by go_num, by omega, rfl, (HT9.out.grow (by omega) (by omega)), AT9.out⟩
          case measure => simp [intOf]; omega
        · obtain rfl : at_ = -1 := HH.out.at1 hp
          have HP := Lib.hid hP
          have HI := Lib.hid hi
          have HL := Lib.hid hlb
          have HVE := Lib.hid hve
          have HU0 := Lib.hid (show 0 < u by omega)
          have b1 := HH.out.lo
          have b2 := HH.out.hi
          clear hP hi hlb hve
          go_upto_region 32 with (first
            | (go_at_call 12; (with_reducible refine (number_is HU.out (by decide) (by decide) _).mono ?_); rintro r w' ⟨rfl, rfl⟩)
            | (go_at_call 22; (with_reducible refine (hold_enter1 HH.out hu4 HU0.out HVE.out HP.out HL.out HI.out).mono ?_); rintro r w5 ⟨rfl, M5, T5, E5⟩; have HM5 := Lib.hid M5; have HTa := Lib.hid T5; have AK := Lib.hid (HA.out.keep (HH.out.keep HP.out.row (by decide) (by decide) E5)); clear M5 T5 E5))
          have c1 := AK.out.e.cell (four_get hu4)
          rw [HVE.out] at c1
          have f1 := AK.out.e.frozen u
          obtain ⟨e', P', hi'⟩ := HM5.out
          have HP5 := Lib.hid P'
          have HDD := Lib.hid (show decide (e'.i = 2) = true from decide_eq_true (by omega))
          clear P' hi'
          have HT := Lib.hid (HTa.out.storeE AK.out u (.pointer none))
          have AT := Lib.hid (AK.out.setE hu4 (.pointer none))
          go_wp2_with (first
            | (go_at_call 21; (with_reducible refine (enDone HP5.out HDD.out).mono ?_); rintro r w' ⟨rfl, rfl⟩))
          go_roundw
          case rel => exact ⟨j + 1, (-1), E, _, _, _, by go_num, by omega, rfl, (HT.out.grow (by omega) (by omega)), AT.out⟩
          case measure => simp [intOf]; omega
    rw [hve] at k1
    by_cases hv0 : v = 0
    · subst hv0
      by_cases hp : e0.i = 2
      · obtain ⟨t1, t2, t3⟩ := HH.out.at2 hp
        have tz : 0 ≤ at_ := by have := (HH.out.ep0 (by omega)).1; omega
        have b1 := HH.out.lo
        have b2 := HH.out.hi
        have HU0 := Lib.hid (show 0 < u by omega)
        go_wp2_with (first
          | (go_at_call 12; (with_reducible refine (number_is HU.out (by decide) (by decide) _).mono ?_); rintro r w' ⟨rfl, rfl⟩)
          | (go_at_call 12; (with_reducible refine (number_is HV.out (by decide) (by decide) _).mono ?_); rintro r w' ⟨rfl, rfl⟩)
          | (go_at_call 25; (with_reducible refine (hold_newLeave HH.out hu4).mono ?_); rintro r w4 ⟨b, rfl, P4, l4, T4, K4⟩; have HP4 := Lib.hid P4; have HL4 := Lib.hid l4; have HT4 := Lib.hid T4; have AT4 := Lib.hid (HA.out.keep K4); clear P4 l4 T4 K4)
          | (go_at_call 26; (with_reducible refine (hold_leave HT4.out hu4 HU0.out HP4.out HL4.out).mono ?_); rintro r w5 ⟨rfl, T5, E5⟩; have HT := Lib.hid T5; have AT := Lib.hid (AT4.out.keep (HT4.out.keep HP4.out.row (by decide) (by decide) E5)); clear T5 E5)
          | (go_at_call 18; (with_reducible refine (hold_now HT.out).mono ?_); rintro r w8 ⟨rfl, U8⟩; have HT8 := Lib.hid (HT.out.up U8); have AT8 := Lib.hid (AT.out.keep (Keep.of_up U8)); clear U8)
          | (go_at_call 18; (with_reducible refine (hold_now HT8.out).mono ?_); rintro r w9 ⟨rfl, U9⟩; have HT9 := Lib.hid (HT8.out.up U9); have AT9 := Lib.hid (AT8.out.keep (Keep.of_up U9)); clear U9))
        go_roundw
        case rel => exact ⟨j + 1, at_, E, _, _, _, by go_num, by omega, rfl, (HT9.out.grow (by omega) (by omega)), AT9.out⟩
        case measure => simp [intOf]; omega
      · obtain rfl : at_ = -1 := HH.out.at1 hp
        have b1 := HH.out.lo
        have b2 := HH.out.hi
        have HU0 := Lib.hid (show 0 < u by omega)
        go_wp2_with (first
          | (go_at_call 12; (with_reducible refine (number_is HU.out (by decide) (by decide) _).mono ?_); rintro r w' ⟨rfl, rfl⟩)
          | (go_at_call 12; (with_reducible refine (number_is HV.out (by decide) (by decide) _).mono ?_); rintro r w' ⟨rfl, rfl⟩)
          | (go_at_call 25; (with_reducible refine (hold_newLeave HH.out hu4).mono ?_); rintro r w4 ⟨b, rfl, P4, l4, T4, K4⟩; have HP4 := Lib.hid P4; have HL4 := Lib.hid l4; have HT4 := Lib.hid T4; have AT4 := Lib.hid (HA.out.keep K4); clear P4 l4 T4 K4)
          | (go_at_call 26; (with_reducible refine (hold_leave HT4.out hu4 HU0.out HP4.out HL4.out).mono ?_); rintro r w5 ⟨rfl, T5, E5⟩; have HT := Lib.hid T5; have AT := Lib.hid (AT4.out.keep (HT4.out.keep HP4.out.row (by decide) (by decide) E5)); clear T5 E5))
        go_roundw
        case rel => exact ⟨j + 1, (-1), E, _, _, _, by go_num, by omega, rfl, (HT.out.grow (by omega) (by omega)), AT.out⟩
        case measure => simp [intOf]; omega
    by_cases hv1 : v = 1
    · subst hv1
      by_cases hp : e0.i = 2
      · obtain ⟨t1, t2, t3⟩ := HH.out.at2 hp
        have tz : 0 ≤ at_ := by have := (HH.out.ep0 (by omega)).1; omega
        have b1 := HH.out.lo
        have b2 := HH.out.hi
        go_wp2_with (first
          | (go_at_call 12; (with_reducible refine (number_is HU.out (by decide) (by decide) _).mono ?_); rintro r w' ⟨rfl, rfl⟩)
          | (go_at_call 12; (with_reducible refine (number_is HV.out (by decide) (by decide) _).mono ?_); rintro r w' ⟨rfl, rfl⟩)
          | (go_at_call 20; (with_reducible refine (hold_newEnter HH.out hu4).mono ?_); rintro r w4 ⟨b, rfl, T4, K4⟩; have AK := Lib.hid (HA.out.keep K4); have HT := Lib.hid (T4.storeE AK.out u (ptr b)); have AT := Lib.hid (AK.out.setE hu4 (ptr b)); have c1 := AK.out.e.cell (four_get hu4); have f1 := AK.out.e.frozen u; clear T4 K4)
          | (go_at_call 18; (with_reducible refine (hold_now HT.out).mono ?_); rintro r w8 ⟨rfl, U8⟩; have HT8 := Lib.hid (HT.out.up U8); have AT8 := Lib.hid (AT.out.keep (Keep.of_up U8)); clear U8)
          | (go_at_call 18; (with_reducible refine (hold_now HT8.out).mono ?_); rintro r w9 ⟨rfl, U9⟩; have HT9 := Lib.hid (HT8.out.up U9); have AT9 := Lib.hid (AT8.out.keep (Keep.of_up U9)); clear U9))
        go_roundw
        case rel => exact ⟨j + 1, at_, E, _, _, _, by go_num, by omega, rfl, (HT9.out.grow (by omega) (by omega)), AT9.out⟩
        case measure => simp [intOf]; omega
      · obtain rfl : at_ = -1 := HH.out.at1 hp
        have b1 := HH.out.lo
        have b2 := HH.out.hi
        go_wp2_with (first
          | (go_at_call 12; (with_reducible refine (number_is HU.out (by decide) (by decide) _).mono ?_); rintro r w' ⟨rfl, rfl⟩)
          | (go_at_call 12; (with_reducible refine (number_is HV.out (by decide) (by decide) _).mono ?_); rintro r w' ⟨rfl, rfl⟩)
          | (go_at_call 20; (with_reducible refine (hold_newEnter HH.out hu4).mono ?_); rintro r w4 ⟨b, rfl, T4, K4⟩; have AK := Lib.hid (HA.out.keep K4); have HT := Lib.hid (T4.storeE AK.out u (ptr b)); have AT := Lib.hid (AK.out.setE hu4 (ptr b)); have c1 := AK.out.e.cell (four_get hu4); have f1 := AK.out.e.frozen u; clear T4 K4))
        go_roundw
        case rel => exact ⟨j + 1, (-1), E, _, _, _, by go_num, by omega, rfl, (HT.out.grow (by omega) (by omega)), AT.out⟩
        case measure => simp [intOf]; omega
    by_cases hp : e0.i = 2
    · obtain ⟨t1, t2, t3⟩ := HH.out.at2 hp
      have tz : 0 ≤ at_ := by have := (HH.out.ep0 (by omega)).1; omega
      have b1 := HH.out.lo
      have b2 := HH.out.hi
      go_wp2_with (first
        | (go_at_call 12; (with_reducible refine (number_is HU.out (by decide) (by decide) _).mono ?_); rintro r w' ⟨rfl, rfl⟩)
        | (go_at_call 12; (with_reducible refine (number_is HV.out (by decide) (by decide) _).mono ?_); rintro r w' ⟨rfl, rfl⟩)
        | (go_at_call 27; (with_reducible refine (hold_newAdv HH.out u).mono ?_); rintro r w4 ⟨b, rfl, T4, K4⟩; have AK := Lib.hid (HA.out.keep K4); have HT := Lib.hid (T4.storeA AK.out u (ptr b)); have AT := Lib.hid (AK.out.setA hu4 (ptr b)); have c2 := AK.out.a.cell (four_get hu4); have f2 := AK.out.a.frozen u; clear T4 K4)
        | (go_at_call 18; (with_reducible refine (hold_now HT.out).mono ?_); rintro r w8 ⟨rfl, U8⟩; have HT8 := Lib.hid (HT.out.up U8); have AT8 := Lib.hid (AT.out.keep (Keep.of_up U8)); clear U8)
        | (go_at_call 18; (with_reducible refine (hold_now HT8.out).mono ?_); rintro r w9 ⟨rfl, U9⟩; have HT9 := Lib.hid (HT8.out.up U9); have AT9 := Lib.hid (AT8.out.keep (Keep.of_up U9)); clear U9))
      go_roundw
      case rel => exact ⟨j + 1, at_, E, _, _, _, by go_num, by omega, rfl, (HT9.out.grow (by omega) (by omega)), AT9.out⟩
      case measure => simp [intOf]; omega
    · obtain rfl : at_ = -1 := HH.out.at1 hp
      have b1 := HH.out.lo
      have b2 := HH.out.hi
      go_wp2_with (first
        | (go_at_call 12; (with_reducible refine (number_is HU.out (by decide) (by decide) _).mono ?_); rintro r w' ⟨rfl, rfl⟩)
        | (go_at_call 12; (with_reducible refine (number_is HV.out (by decide) (by decide) _).mono ?_); rintro r w' ⟨rfl, rfl⟩)
        | (go_at_call 27; (with_reducible refine (hold_newAdv HH.out u).mono ?_); rintro r w4 ⟨b, rfl, T4, K4⟩; have AK := Lib.hid (HA.out.keep K4); have HT := Lib.hid (T4.storeA AK.out u (ptr b)); have AT := Lib.hid (AK.out.setA hu4 (ptr b)); have c2 := AK.out.a.cell (four_get hu4); have f2 := AK.out.a.frozen u; clear T4 K4))
      go_roundw
      case rel => exact ⟨j + 1, (-1), E, _, _, _, by go_num, by omega, rfl, (HT.out.grow (by omega) (by omega)), AT.out⟩
      case measure => simp [intOf]; omega

set_option maxRecDepth 100000 in
theorem lifted (os : Os) (started : os.Started) (H : Type) (enc : TypeId × Value → H) :
    ReturnsInHanded {} Try.checked os 4 .any (Rows.epochHoldsSpec.pre6 enc Try.prog Try.f4 Rows.epochHoldsRow.domain false) (Rows.epochHoldsSpec.post enc Try.prog Try.f4 false true false false) := by
  refine returnsInHanded_of_change (C := Try.checked) own started (by kernel_rfl) Try.func4
    (ChangeSpec.witness6 (enc := enc) (C := Try.checked) false ⟨#[], #[.int .i64 0, .slice none 0 0], []⟩ 8 (by kernel_rfl) (by kernel_rfl) (by kernel_rfl) (by kernel_rfl)) ?_
  intro W base args ds gs before hval0 hW hcnd _
  have hval : ∀ (j : Nat) t v, Try.f4.params[j]? = some t → args[j]? = some v → Value.okWide Try.prog W .any base t v := hval0
  have hW' := hW
  obtain ⟨p, q, hA0, hV, rfl, hfz, hnd⟩ := hW
  have hA : DataW.TrodAll enc Try.prog W 0 (fun _ => true) true Try.f4.params.toList args.toList ds p := hA0
  rw [Try.params4] at hA hval
  obtain ⟨v0, vs0, d0, ds0, p0, q0, hargs, rfl, rfl, h0, r0⟩ := trodAll_cons hA
  obtain ⟨v1, vs1, d1, ds1, p1, q1, rfl, rfl, rfl, h1, r1⟩ := trodAll_cons r0
  obtain ⟨rfl, rfl, rfl⟩ := trodAll_nil r1
  obtain rfl : args = #[v0, v1] := by cases args; simp_all
  obtain ⟨rfl, rfl⟩ := trodVars_none hV
  have k0 := h0
  have lt0 : ∀ x ∈ p0, x.block < W.heap.size := by obtain ⟨m, hm⟩ := k0; exact DataW.trod_lt m _ _ _ hm
  obtain ⟨a0, rfl, rfl, rfl, w0⟩ := open_int Try.underlying3 (hval 0 3 v0 rfl rfl) h0
  have k1 := h1
  have lt1 : ∀ x ∈ p1, x.block < W.heap.size := by obtain ⟨m, hm⟩ := k1; exact DataW.trod_lt m _ _ _ hm
  obtain ⟨a1, len1, cap1, rfl⟩ := okWide_slice Try.underlying24 (hval 1 24 v1 rfl rfl)
  obtain ⟨z1, w1⟩ : ∃ zs, IsRow .i64 W a1 len1 cap1 zs := by
    obtain ⟨fuel, hf⟩ := h1
    rcases open_ints Try.underlying24 Try.underlying3 (by kernel_rfl) hf with ⟨hcs, _⟩ | ⟨x, l, c, zs, hcs, _, hl, hm, hz, _, hcell, hwz⟩
    · simp [Value.cells] at hcs
      obtain ⟨rfl, rfl, rfl⟩ := hcs
      exact ⟨[], .inl ⟨rfl, rfl, rfl, rfl⟩⟩
    · simp [Value.cells] at hcs
      obtain ⟨rfl, rfl, rfl⟩ := hcs
      exact ⟨zs, .inr ⟨_, rfl, hl, hm, by simpa using hz, hcell, hwz⟩⟩
  clear hA0 hval0
  refine (walk a0 a1 len1 cap1 z1 W w0 w1).mono fun e W' ⟨he, bel⟩ => ?_
  subst he
  exact ⟨_, rfl, _, _, _, [], _, [], hW', trodAll_mk1 (shut_bool Try.underlying4 _), (trodAll_cons_mk (Below.trod laidOut (by kernel_rfl) (of_decide_eq_true (by kernel_rfl)) k0 bel lt0) (trodAll_cons_mk (Below.trod laidOut (by kernel_rfl) (of_decide_eq_true (by kernel_rfl)) k1 bel lt1) trodAll_mk0)), rfl, Below.frame bel _, fun h => by cases h⟩

theorem over : Rows.epochHoldsRow.holds Try.pinned (OpenSpec.ofChange Rows.epochHoldsSpec) :=
  OpenClaim.holds_of_wide 4 Try.f4 rfl rfl rfl rfl rfl rfl rfl ⟨rfl, rfl, rfl, rfl, rfl⟩ rfl rfl rfl rfl rfl (by kernel_rfl) Try.func4 (by kernel_rfl)
    (of_decide_eq_true (by kernel_rfl)) (by unfold Func.isWrapper; first | (rw [if_pos (by decide +kernel)]; kernel_rfl) | (rw [if_neg (by decide +kernel)]; exact ⟨rfl, rfl⟩))
    (fun os started H enc _ => lifted os started H enc)

/-- THE STATEMENT -/
theorem proved : Rows.EpochHoldsSaid := over
#print axioms proved
end Go.Proofs.Ytngaokhlcdlpfaa.epochHolds
