/-
  LimboPlays of layer 7: whatever is retired and asked for, what each call answers and what is in each bucket are what the reference says; for every list of at most 60 things.
-/
import Derived.Test.YthajdabdiaogiaaRows
import Derived.Test.YthajdabdiaogiaaPlayMem
import Derived.WalkKit
import Derived.ProofKit
import Derived.OpenShut
import Derived.ShutString
import Derived.ChangeOld
import Derived.Below
import Derived.Carry
import Derived.Lib.SmallJoins
import Derived.Deep.RegionHeld3
import Derived.Deep.RegionLaw
import Derived.BigQuiet
namespace Go.Proofs.Ythajdabdiaogiaa.limboPlays
open Go.ChangeShapes Go.WideShapes Go.ChangeAt Go.RowKit Go.Joins Go.Proofs.Ythajdabdiaogiaa W64
open Go.ChangeMaps (open_string shut_string)
set_option linter.unusedVariables false

theorem own : ownKnob Try.prog.godebug = none := by kernel_rfl
theorem laidOut : laidOutB Try.prog = true := by kernel_rfl

theorem lnew_q (w : World) : Calls Try.prog 8 #[] w fun e w' => ∃ q, e = .returned (.pointer (some ⟨q, 0, none⟩)) ∧ Mine w w' q [q] Lb.zero :=
  (lnew_mine w).mono fun _ _ ⟨he, M⟩ => ⟨_, he, M⟩
theorem wf_bounds {x : Int} (h : (Lit.int .i64 x).wf = true) : -9223372036854775808 ≤ x ∧ x < 9223372036854775808 := by
  simp [Lit.wf, IntKind.min, IntKind.max, IntKind.bits, IntKind.signed] at h; omega

set_option maxHeartbeats 16000000 in
set_option maxRecDepth 100000 in
theorem walk (a0 : Option Addr) (len0 cap0 : Nat) (z0 : Nat → Nat → Value) (w : World) (w0 : IsRecs [.i .i64, .i .i64, .s] w a0 len0 cap0 z0) :
    Calls Try.prog 3 #[.slice a0 len0 cap0] w fun e w' => e = .returned (.bool true) ∧ Up w w' := by
  have hm := w0.len_le
  unfold maxLen at hm
  have HW0 := Lib.hid w0
  clear w0
  by_cases hlen : len0 ≤ 60
  rotate_left
  · have hl2 : 60 < len0 := by omega
    go_enter Try.func3, Try.ntmps3
    go_wp2_with (first
      | (go_at_call 7; refine (first_any _).mono ?_; rintro e wA ⟨rfl, UA⟩))
    go_ret
    exact ⟨rfl, UA⟩
  go_enter Try.func3, Try.ntmps3
  go_wp2_with (first
    | (go_at_call 7; refine (first_any _).mono ?_; rintro e wA ⟨rfl, UA⟩)
    | (go_at_call 8; refine (lnew_q _).mono ?_; rintro e wB ⟨q, rfl, MB⟩; have HM1 := Lib.hid MB; clear MB)
    | (go_at_call 9; refine (rlnew_any _).mono ?_; rintro e wC ⟨p, rfl, LC, hpB, UC⟩; have HLC := Lib.hid LC; have HUC := Lib.hid UC; clear LC UC))
  have HUA := Lib.hid UA
  have HT0 := Lib.hid (show Two wA wC q p [q] [p] Lb.zero Lb.rzero from ⟨HM1.out.lim.up HUC.out, HLC.out, fun b hb hc => by simp at hb hc; have := HM1.out.lim.lt q (by simp); omega, HM1.out.new, fun b hb => by simp at hb; have := HM1.out.up.size; omega, HM1.out.up.trans HUC.out⟩)
  clear UA hpB
  go_loopw [6] (fun i wr => PlayRel wA q p len0 i wr) (fun i _ => len0 - (intOf i).toNat)
  case atStart => exact ⟨0, _, _, _, _, rfl, Nat.zero_le _, HT0.out, Sim.zero, by decide⟩
  case round =>
    obtain ⟨i, F, G, S, R, rfl, him, T, SM, hsz⟩ := hrel
    have HT := Lib.hid T
    have HSM := Lib.hid SM
    clear T SM
    have i0 : (0 : Int) ≤ (i : Int) := Int.natCast_nonneg _
    by_cases hlt : i < len0
    rotate_left
    · have i1 : ¬ (i : Int) < (len0 : Int) := by omega
      go_wp2_with fail
      go_ret
      exact ⟨rfl, HUA.out.trans HT.out.up⟩
    have i1 : (i : Int) < (len0 : Int) := by omega
    obtain ⟨b, off, kd, tg, it, xs, rfl, hb, c0, c1, c2, wk, wt, R0⟩ := HW0.out.do hlt
    obtain ⟨t0, t1⟩ := wf_bounds wt
    obtain ⟨A, N, c, rfl⟩ : ∃ A N c, it = .slice A N c := by obtain ⟨A, c, e⟩ := R0.slice; exact ⟨A, _, c, e⟩
    have HNX := Lib.hid (show xs.length = N by obtain ⟨A', c', e⟩ := R0.slice; injection e with _ e2 _; exact e2.symm)
    have HR0 := Lib.hid R0
    have HU0 := Lib.hid (HUA.out.trans HT.out.up)
    replace c0 := HU0.out.kept c0
    replace c1 := HU0.out.kept c1
    replace c2 := HU0.out.kept c2
    clear wk wt R0 hb
    go_upto_region 14 with fail
    obtain ⟨db, hdb⟩ : ∃ db, wr.heap.size = db := ⟨_, rfl⟩
    have y0 : (wr.alloc (.cells #[.int .i64 kd, .int .i64 tg, .slice A N c] 30)).cell? ⟨db, 0, none⟩ = some (.int .i64 kd) := cell_new hdb.symm rfl
    have y1 : (wr.alloc (.cells #[.int .i64 kd, .int .i64 tg, .slice A N c] 30)).cell? ⟨db, 1, none⟩ = some (.int .i64 tg) := cell_new hdb.symm rfl
    have y2 : (wr.alloc (.cells #[.int .i64 kd, .int .i64 tg, .slice A N c] 30)).cell? ⟨db, 2, none⟩ = some (.slice A N c) := cell_new hdb.symm rfl
    have HT1 := Lib.hid (HT.out.then (Up.alloc wr (.cells #[.int .i64 kd, .int .i64 tg, .slice A N c] 30)))
    have HDF := Lib.hid (show db ∉ F from fun h => by have := HT.out.lim.lt db h; omega)
    have HDG := Lib.hid (show db ∉ G from fun h => by have := HT.out.rim.lt db h; omega)
    have HR1 := Lib.hid ((HR0.out.up HU0.out).up (Up.alloc wr (.cells #[.int .i64 kd, .int .i64 tg, .slice A N c] 30)))
    rw [hdb]
    generalize wr.alloc (.cells #[.int .i64 kd, .int .i64 tg, .slice A N c] 30) = w1 at *
    clear hdb c0 c1 c2
    by_cases hn40 : 40 < N
    · go_wp2_with fail
      go_ret
      exact ⟨rfl, HUA.out.trans HT1.out.up⟩
    go_upto_region 16 with fail
    obtain ⟨ob, hob⟩ : ∃ ob, S.isOpen tg = ob := ⟨_, rfl⟩
    have HO1 := Lib.hid hob
    have HO2 := Lib.hid (show (R.ropn tg).isSome = ob by rw [HSM.out.opn tg]; exact hob)
    have HY := Lib.hid (And.intro y0 (And.intro y1 y2))
    replace y1 := cell_class y1
    clear hob y0 y2
    refine wp_region_up (Up.refl w1) (by kernel_rfl) (by kernel_rfl) ?_
    repeat (go_big_quiet_step (first
      | (go_at_call 10; (with_reducible exact up_class (open_to (HT1.out.lim.up (UpOf.up _)) HO1.out)))
      | (go_at_call 11; (with_reducible exact up_class (ropen_to (HT1.out.rim.up (UpOf.up _)) t1 HO2.out)))))
    refine wpQuiet_nil ?_
    rintro _ ⟨x, rfl⟩
    have hu2 := x.up
    generalize x.w = w2 at hu2 ⊢
    clear x
    have HT2 := Lib.hid (HT1.out.then hu2)
    have HR2 := Lib.hid (HR1.out.up hu2)
    obtain ⟨y0, y1', y2⟩ := HY.out
    have z0 := hu2.kept y0
    have z1 := hu2.kept y1'
    have z2 := hu2.kept y2
    clear y0 y1 y1' y2 hu2
    obtain ⟨e, he, _, e0, e1⟩ := emod_letter kd 4 (by decide)
    have HE := Lib.hid he
    clear he
    have HS82 := Lib.hid (show S.size ≤ 8192 by omega)
    have HS83 := Lib.hid (show R.size ≤ 8192 by rw [HSM.out.size]; omega)
    by_cases hek : e < 3
    · go_upto_region 19 with (first | (go_at_call 12; (with_reducible refine (number_is HE.out (by decide) (by decide) _).mono ?_); rintro e w' ⟨rfl, rfl⟩))
      by_cases hmay : xs ≠ [] ∧ S.last ≤ tg ∧ tg ≤ 4611686018427387903
      · obtain ⟨hx0, hl0, hx2⟩ := hmay
        obtain ⟨k, hk⟩ : ∃ k : Nat, tg % 3 = k := ⟨(tg % 3).toNat, by omega⟩
        have hk3 : k < 3 := by omega
        have HX0 := Lib.hid hx0
        have HL0 := Lib.hid hl0
        have HK := Lib.hid hk
        have HML := Lib.hid ((HSM.out.may tg).2 hl0)
        have HAWF := Lib.hid (rd_away (F := F) HR0.out hx0 (fun b hb => Nat.le_trans HUA.out.size (HT.out.nF b hb)))
        have HAWG := Lib.hid (rd_away (F := G) HR0.out hx0 (fun b hb => Nat.le_trans HUA.out.size (HT.out.nG b hb)))
        have HZ8 := Lib.hid (show S.size + xs.length ≤ 8192 by rw [HNX.out]; omega)
        have HZ9 := Lib.hid (show R.size + xs.length ≤ 8192 by rw [HNX.out, HSM.out.size]; omega)
        obtain ⟨S8, hS8⟩ : ∃ S8, S.retire k tg xs = S8 := ⟨_, rfl⟩
        obtain ⟨R8, hR8⟩ : ∃ R8, R.rretire k tg xs = R8 := ⟨_, rfl⟩
        obtain ⟨ys, hys⟩ : ∃ ys, S.taken k tg = ys := ⟨_, rfl⟩
        obtain ⟨m, hm⟩ : ∃ m, ys.length = m := ⟨_, rfl⟩
        have HS8 := Lib.hid hS8
        have HR8 := Lib.hid hR8
        have HYS := Lib.hid hys
        have HYR := Lib.hid ((HSM.out.taken hk3 tg).trans hys)
        have HM := Lib.hid hm
        have HSM8 := Lib.hid (show Sim S8 R8 by rw [← hS8, ← hR8]; exact HSM.out.retire hk3 hl0 hx2 hk hx0)
        have HSZ8 := Lib.hid (show S8.size ≤ 40 * (i + 1) by have := Lb.size_retire (S := S) hk3 tg xs; rw [hS8, HNX.out] at this; omega)
        clear hx0 hl0 hk hS8 hR8 hys hm
        go_region_held3 (fun w' => w'.cell? ⟨db, 1, none⟩ = some (.int .i64 tg) ∧ w'.cell? ⟨db, 2, none⟩ = some (.slice A N c))
          ((first | exact HK6.out | exact ⟨HU5.out.kept z1, HU5.out.kept z2⟩ | exact ⟨z1, z2⟩))
          (first
            | (refine step_app (v := .slice none 0 0) (by rfl) _ _ (by rfl) (by rfl) (by rfl) (Ints.nil _) (HR2.out.up (up_drew _)) (by rw [HNX.out]; simp; omega) ?_; intro v5 w5 J5 G5 A5; obtain ⟨B5, M5, e5, rfl⟩ := shapeI J5; have HJ5 := Lib.hid (show Ints w5 (.slice B5 M5 e5) xs by simpa using J5); have HU5 := Lib.hid (up_app (up_drew w2) G5 (fresh_nil _)); have HF5 := Lib.hid (fresh_app (fresh_nil w2) (up_drew w2).size A5); clear J5 G5 A5)
            | (go_at_call 13; (with_reducible refine (lretire_to (HT2.out.then HU5.out).lim HJ5.out.rd (away_new HT2.out.lim HF5.out) HX0.out HL0.out hx2 HK.out HZ8.out HS8.out HYS.out HM.out).mono ?_); rintro e w6 ⟨A6, c6, rfl, T6⟩; obtain ⟨F8, D6, J6, A6', N6, E6⟩ := (HT2.out.then HU5.out).took T6; have HD6 := Lib.hid D6; have HJ6 := Lib.hid J6; have HA6 := Lib.hid A6'; have HK6 := Lib.hid (And.intro (E6.kept (p := ⟨db, 1, none⟩) (HU5.out.kept z1) HDF.out) (E6.kept (p := ⟨db, 2, none⟩) (HU5.out.kept z2) HDF.out)); have HR6 := Lib.hid ((HR2.out.up HU5.out).else E6 HAWF.out); clear T6 D6 J6 A6' N6 E6))
        obtain ⟨q1, q2⟩ := HK6.out
        clear z0 z1 z2
        go_wp2_with (first
          | (go_at_call 14; (with_reducible refine (rlretire_to HD6.out.rim HR6.out HAWG.out HX0.out HML.out hx2 HK.out HZ9.out HR8.out HYR.out HM.out).mono ?_); rintro e w7 ⟨A7, c7, rfl, T7⟩; obtain ⟨G8, D7, J7, A7', N7, E7⟩ := HD6.out.rtook T7; have HD7 := Lib.hid D7; have HJ7 := Lib.hid J7; have HJ67 := Lib.hid (HJ6.out.else E7 HA6.out); clear T7 D7 J7 A7' N7 E7)
          | (go_at_call 15; (with_reducible refine (same_in HJ67.out.rd HJ7.out.rd).mono ?_); rintro e w8 ⟨rfl, U8⟩; have HT8 := Lib.hid (HD7.out.then U8); clear U8))
        go_loopw [12] (fun k wr => BkRel w8 k wr) (fun k _ => (4 - intOf k).toNat)
        case atStart => exact ⟨0, by omega, by simp, Up.refl _⟩
        case round =>
          obtain ⟨j, hj, rfl, hu⟩ := hrel
          have HU := Lib.hid hu
          have HTr := Lib.hid (HT8.out.then hu)
          clear hu
          by_cases hj5 : j < 5
          · by_cases hin : 1 ≤ j ∧ j ≤ 3
            · obtain ⟨k, rfl⟩ : ∃ k, j = k + 1 := ⟨j - 1, by omega⟩
              have hk : k < 3 := by omega
              have hk4 : (k : Int) < 4 := by omega
              have k0 : (0 : Int) ≤ (k : Int) := Int.natCast_nonneg _
              rw [show (((k + 1 : Nat) : Int) - 1) = (k : Int) by omega]
              obtain ⟨xk, hxk⟩ : ∃ xk, S8.L k = xk := ⟨_, rfl⟩
              obtain ⟨tk, htk⟩ : ∃ tk, S8.T k = tk := ⟨_, rfl⟩
              obtain ⟨m, hm⟩ : ∃ m, xk.length = m := ⟨_, rfl⟩
              have HBT := Lib.hid htk
              have HBL := Lib.hid hxk
              have HRT := Lib.hid ((HSM8.out.bucket hk).1.trans htk)
              have HRL := Lib.hid ((HSM8.out.bucket hk).2.trans hxk)
              have HLE := Lib.hid (show xk.length ≤ 8192 by rw [← hxk]; have : (S8.L k).length ≤ S8.size := Lb.len_le hk; have := HSZ8.out; omega)
              have HM := Lib.hid hm
              clear hxk htk hm hin
              go_wp2_with (first
                | (go_at_call 18; (with_reducible refine (bucket_to HTr.out.lim rfl hk HBT.out HBL.out HLE.out HM.out).mono ?_); rintro e wa ⟨Aa, ca, rfl, Ja, Fa, Ua⟩; have HJa := Lib.hid Ja; have HTa := Lib.hid (HTr.out.then Ua); have HUa := Lib.hid (HU.out.trans Ua); clear Ja Fa Ua)
                | (go_at_call 19; (with_reducible refine (rbucket_to HTa.out.rim rfl hk HRT.out HRL.out HLE.out HM.out).mono ?_); rintro e wb ⟨Ab, cb, rfl, Jb, Fb, Ub⟩; have HJb := Lib.hid Jb; have HJa2 := Lib.hid (HJa.out.up Ub); have HUb := Lib.hid (HUa.out.trans Ub); clear Jb Fb Ub)
                | (go_at_call 15; (with_reducible refine (same_in HJa2.out.rd HJb.out.rd).mono ?_); rintro e wc ⟨rfl, Uc⟩; have HUc := Lib.hid (HUb.out.trans Uc); clear Uc))
              go_roundw
              case rel => exact ⟨k + 2, by omega, by go_num, HUc.out⟩
              case measure => simp [intOf]; omega
            · have hio : j = 0 ∨ j = 4 := by omega
              clear hin
              rcases hio with rfl | rfl
              · rw [show (((0 : Nat) : Int) - 1) = -1 by omega]
                have HN1 := Lib.hid (show ¬ ((0 : Int) ≤ -1 ∧ (-1 : Int) < 3) by omega)
                go_wp2_with (first
                  | (go_at_call 18; (with_reducible refine (bucket_out HN1.out).mono ?_); rintro e wa ⟨rfl, rfl⟩)
                  | (go_at_call 19; (with_reducible refine (rbucket_out HN1.out).mono ?_); rintro e wb ⟨rfl, rfl⟩)
                  | (go_at_call 15; (with_reducible refine (same_in (Rd.nil _) (Rd.nil _)).mono ?_); rintro e wc ⟨rfl, Uc⟩; have HUc := Lib.hid (HU.out.trans Uc); clear Uc))
                go_roundw
                case rel => exact ⟨1, by omega, by go_num, HUc.out⟩
                case measure => simp [intOf]
              · rw [show (((4 : Nat) : Int) - 1) = 3 by omega]
                have HN1 := Lib.hid (show ¬ ((0 : Int) ≤ 3 ∧ (3 : Int) < 3) by omega)
                go_wp2_with (first
                  | (go_at_call 18; (with_reducible refine (bucket_out HN1.out).mono ?_); rintro e wa ⟨rfl, rfl⟩)
                  | (go_at_call 19; (with_reducible refine (rbucket_out HN1.out).mono ?_); rintro e wb ⟨rfl, rfl⟩)
                  | (go_at_call 15; (with_reducible refine (same_in (Rd.nil _) (Rd.nil _)).mono ?_); rintro e wc ⟨rfl, Uc⟩; have HUc := Lib.hid (HU.out.trans Uc); clear Uc))
                go_roundw
                case rel => exact ⟨5, by omega, by go_num, HUc.out⟩
                case measure => simp [intOf]
          · obtain rfl : j = 5 := by omega
            rw [show (((5 : Nat) : Int) - 1) = 4 by omega]
            obtain ⟨m, hm⟩ : ∃ m, S8.size = m := ⟨_, rfl⟩
            have HM := Lib.hid hm
            have HM2 := Lib.hid (HSM8.out.size.trans hm)
            have hm8 : m ≤ 8192 := by have := HSZ8.out; omega
            clear hm
            go_wp2_with (first
              | (go_at_call 20; (with_reducible refine (llen_to HTr.out.lim HM.out hm8).mono ?_); rintro e wa ⟨rfl, Ua⟩; have HTa := Lib.hid (HTr.out.then Ua); clear Ua)
              | (go_at_call 21; (with_reducible refine (rllen_to HTa.out.rim HM2.out hm8).mono ?_); rintro e wb ⟨rfl, Ub⟩; have HTb := Lib.hid (HTa.out.then Ub); clear Ub))
            go_roundw
            case rel => exact ⟨i + 1, F8, G8, S8, R8, by go_num, by omega, HTb.out, HSM8.out, HSZ8.out⟩
            case measure => simp [intOf]; omega
      · have HNM := Lib.hid hmay
        have HNM2 := Lib.hid (show ¬ (xs ≠ [] ∧ (0 ≤ tg ∧ R.last ≤ tg) ∧ tg ≤ 4611686018427387903) from fun h => hmay ⟨h.1, (HSM.out.may tg).1 h.2.1, h.2.2⟩)
        clear hmay
        obtain ⟨S8, hS8⟩ : ∃ S8, S = S8 := ⟨_, rfl⟩
        obtain ⟨R8, hR8⟩ : ∃ R8, R = R8 := ⟨_, rfl⟩
        obtain ⟨F8, hF8⟩ : ∃ F8, F = F8 := ⟨_, rfl⟩
        obtain ⟨G8, hG8⟩ : ∃ G8, G = G8 := ⟨_, rfl⟩
        subst hS8 hR8 hF8 hG8
        have HSM8 := HSM
        have HSZ8 := Lib.hid (show S.size ≤ 40 * (i + 1) by omega)
        go_region_held3 (fun w' => w'.cell? ⟨db, 1, none⟩ = some (.int .i64 tg) ∧ w'.cell? ⟨db, 2, none⟩ = some (.slice A N c))
          ((first | exact ⟨HU5.out.kept z1, HU5.out.kept z2⟩ | exact ⟨z1, z2⟩))
          (first
            | (refine step_app (v := .slice none 0 0) (by rfl) _ _ (by rfl) (by rfl) (by rfl) (Ints.nil _) (HR2.out.up (up_drew _)) (by rw [HNX.out]; simp; omega) ?_; intro v5 w5 J5 G5 A5; obtain ⟨B5, M5, e5, rfl⟩ := shapeI J5; have HJ5 := Lib.hid (show Ints w5 (.slice B5 M5 e5) xs by simpa using J5); have HU5 := Lib.hid (up_app (up_drew w2) G5 (fresh_nil _)); have HF5 := Lib.hid (fresh_app (fresh_nil w2) (up_drew w2).size A5); clear J5 G5 A5)
            | (go_at_call 13; (with_reducible refine (lretire_no (HT2.out.then HU5.out).lim HJ5.out.rd HNM.out).mono ?_); rintro e w6 ⟨rfl, rfl⟩))
        have q1 := HU5.out.kept z1
        have q2 := HU5.out.kept z2
        have HT5 := Lib.hid (HT2.out.then HU5.out)
        clear z0 z1 z2
        go_wp2_with (first
          | (go_at_call 14; (with_reducible refine (rlretire_no HT5.out.rim (HR2.out.up HU5.out) HNM2.out).mono ?_); rintro e w7 ⟨rfl, rfl⟩)
          | (go_at_call 15; (with_reducible refine (same_in (Rd.nil _) (Rd.nil _)).mono ?_); rintro e w8 ⟨rfl, U8⟩; have HT8 := Lib.hid (HT5.out.then U8); clear U8))
        go_loopw [12] (fun k wr => BkRel w8 k wr) (fun k _ => (4 - intOf k).toNat)
        case atStart => exact ⟨0, by omega, by simp, Up.refl _⟩
        case round =>
          obtain ⟨j, hj, rfl, hu⟩ := hrel
          have HU := Lib.hid hu
          have HTr := Lib.hid (HT8.out.then hu)
          clear hu
          by_cases hj5 : j < 5
          · by_cases hin : 1 ≤ j ∧ j ≤ 3
            · obtain ⟨k, rfl⟩ : ∃ k, j = k + 1 := ⟨j - 1, by omega⟩
              have hk : k < 3 := by omega
              have hk4 : (k : Int) < 4 := by omega
              have k0 : (0 : Int) ≤ (k : Int) := Int.natCast_nonneg _
              rw [show (((k + 1 : Nat) : Int) - 1) = (k : Int) by omega]
              obtain ⟨xk, hxk⟩ : ∃ xk, S.L k = xk := ⟨_, rfl⟩
              obtain ⟨tk, htk⟩ : ∃ tk, S.T k = tk := ⟨_, rfl⟩
              obtain ⟨m, hm⟩ : ∃ m, xk.length = m := ⟨_, rfl⟩
              have HBT := Lib.hid htk
              have HBL := Lib.hid hxk
              have HRT := Lib.hid ((HSM.out.bucket hk).1.trans htk)
              have HRL := Lib.hid ((HSM.out.bucket hk).2.trans hxk)
              have HLE := Lib.hid (show xk.length ≤ 8192 by rw [← hxk]; have : (S.L k).length ≤ S.size := Lb.len_le hk; have := HSZ8.out; omega)
              have HM := Lib.hid hm
              clear hxk htk hm hin
              go_wp2_with (first
                | (go_at_call 18; (with_reducible refine (bucket_to HTr.out.lim rfl hk HBT.out HBL.out HLE.out HM.out).mono ?_); rintro e wa ⟨Aa, ca, rfl, Ja, Fa, Ua⟩; have HJa := Lib.hid Ja; have HTa := Lib.hid (HTr.out.then Ua); have HUa := Lib.hid (HU.out.trans Ua); clear Ja Fa Ua)
                | (go_at_call 19; (with_reducible refine (rbucket_to HTa.out.rim rfl hk HRT.out HRL.out HLE.out HM.out).mono ?_); rintro e wb ⟨Ab, cb, rfl, Jb, Fb, Ub⟩; have HJb := Lib.hid Jb; have HJa2 := Lib.hid (HJa.out.up Ub); have HUb := Lib.hid (HUa.out.trans Ub); clear Jb Fb Ub)
                | (go_at_call 15; (with_reducible refine (same_in HJa2.out.rd HJb.out.rd).mono ?_); rintro e wc ⟨rfl, Uc⟩; have HUc := Lib.hid (HUb.out.trans Uc); clear Uc))
              go_roundw
              case rel => exact ⟨k + 2, by omega, by go_num, HUc.out⟩
              case measure => simp [intOf]; omega
            · have hio : j = 0 ∨ j = 4 := by omega
              clear hin
              rcases hio with rfl | rfl
              · rw [show (((0 : Nat) : Int) - 1) = -1 by omega]
                have HN1 := Lib.hid (show ¬ ((0 : Int) ≤ -1 ∧ (-1 : Int) < 3) by omega)
                go_wp2_with (first
                  | (go_at_call 18; (with_reducible refine (bucket_out HN1.out).mono ?_); rintro e wa ⟨rfl, rfl⟩)
                  | (go_at_call 19; (with_reducible refine (rbucket_out HN1.out).mono ?_); rintro e wb ⟨rfl, rfl⟩)
                  | (go_at_call 15; (with_reducible refine (same_in (Rd.nil _) (Rd.nil _)).mono ?_); rintro e wc ⟨rfl, Uc⟩; have HUc := Lib.hid (HU.out.trans Uc); clear Uc))
                go_roundw
                case rel => exact ⟨1, by omega, by go_num, HUc.out⟩
                case measure => simp [intOf]
              · rw [show (((4 : Nat) : Int) - 1) = 3 by omega]
                have HN1 := Lib.hid (show ¬ ((0 : Int) ≤ 3 ∧ (3 : Int) < 3) by omega)
                go_wp2_with (first
                  | (go_at_call 18; (with_reducible refine (bucket_out HN1.out).mono ?_); rintro e wa ⟨rfl, rfl⟩)
                  | (go_at_call 19; (with_reducible refine (rbucket_out HN1.out).mono ?_); rintro e wb ⟨rfl, rfl⟩)
                  | (go_at_call 15; (with_reducible refine (same_in (Rd.nil _) (Rd.nil _)).mono ?_); rintro e wc ⟨rfl, Uc⟩; have HUc := Lib.hid (HU.out.trans Uc); clear Uc))
                go_roundw
                case rel => exact ⟨5, by omega, by go_num, HUc.out⟩
                case measure => simp [intOf]
          · obtain rfl : j = 5 := by omega
            rw [show (((5 : Nat) : Int) - 1) = 4 by omega]
            obtain ⟨m, hm⟩ : ∃ m, S.size = m := ⟨_, rfl⟩
            have HM := Lib.hid hm
            have HM2 := Lib.hid (HSM.out.size.trans hm)
            have hm8 : m ≤ 8192 := by have := HSZ8.out; omega
            clear hm
            go_wp2_with (first
              | (go_at_call 20; (with_reducible refine (llen_to HTr.out.lim HM.out hm8).mono ?_); rintro e wa ⟨rfl, Ua⟩; have HTa := Lib.hid (HTr.out.then Ua); clear Ua)
              | (go_at_call 21; (with_reducible refine (rllen_to HTa.out.rim HM2.out hm8).mono ?_); rintro e wb ⟨rfl, Ub⟩; have HTb := Lib.hid (HTa.out.then Ub); clear Ub))
            go_roundw
            case rel => exact ⟨i + 1, F, G, S, R, by go_num, by omega, HTb.out, HSM.out, HSZ8.out⟩
            case measure => simp [intOf]; omega
    · obtain ⟨S8, hS8⟩ : ∃ S8, S.rest tg = S8 := ⟨_, rfl⟩
      obtain ⟨R8, hR8⟩ : ∃ R8, R.rremain tg = R8 := ⟨_, rfl⟩
      obtain ⟨ys, hys⟩ : ∃ ys, S.outs tg = ys := ⟨_, rfl⟩
      obtain ⟨m, hm⟩ : ∃ m, ys.length = m := ⟨_, rfl⟩
      have HS8 := Lib.hid hS8
      have HR8 := Lib.hid hR8
      have HYS := Lib.hid hys
      have HYR := Lib.hid ((HSM.out.ready tg).1.trans hys)
      have HM := Lib.hid hm
      have HSM8 := Lib.hid (show Sim S8 R8 by rw [← hS8, ← hR8]; exact (HSM.out.ready tg).2)
      have HSZ8 := Lib.hid (show S8.size ≤ 40 * (i + 1) by have := (Lb.rest_ok HSM.out.ok tg).2.2.1; rw [hS8] at this; omega)
      clear hS8 hR8 hys hm
      go_upto_region 23 with (first | (go_at_call 12; (with_reducible refine (number_is HE.out (by decide) (by decide) _).mono ?_); rintro e w' ⟨rfl, rfl⟩))
      have HT2d := Lib.hid (HT2.out.then (up_drew w2))
      go_region_held3 (fun w' => w'.cell? ⟨db, 1, none⟩ = some (.int .i64 tg))
        ((first | exact HKC.out | exact HKB.out | exact HKA.out | exact z1))
        (first
          | (go_at_call 16; (with_reducible refine (lready_to HT2d.out.lim HS82.out HS8.out HYS.out HM.out).mono ?_); rintro e w5 ⟨A5, c5, rfl, T5⟩; obtain ⟨F8, D5, J5, A5', N5, E5⟩ := HT2d.out.took T5; have HD5 := Lib.hid D5; have HJ5 := Lib.hid J5; have HA5 := Lib.hid A5'; have HKA := Lib.hid (E5.kept (p := ⟨db, 1, none⟩) z1 HDF.out); clear T5 D5 J5 A5' N5 E5)
          | (go_at_call 17; (with_reducible refine (rlready_to HT2d.out.rim t1 HS83.out HR8.out HYR.out HM.out).mono ?_); rintro e w5 ⟨A6, c6, rfl, T5⟩; obtain ⟨G8, D5, J5, A5', N5, E5⟩ := HT2d.out.rtook T5; have HC5 := Lib.hid D5; have HJ5 := Lib.hid J5; have HA5 := Lib.hid A5'; have HKA := Lib.hid (E5.kept (p := ⟨db, 1, none⟩) z1 HDG.out); clear T5 D5 J5 A5' N5 E5)
          | (go_at_call 17; (with_reducible refine (rlready_to HD5.out.rim t1 HS83.out HR8.out HYR.out HM.out).mono ?_); rintro e w6 ⟨A6, c6, rfl, T6⟩; obtain ⟨G8, D6, J6, A6', N6, E6⟩ := HD5.out.rtook T6; have HD6 := Lib.hid D6; have HJW := Lib.hid J6; have HJO := Lib.hid (HJ5.out.else E6 HA5.out); have HKB := Lib.hid (E6.kept (p := ⟨db, 1, none⟩) HKA.out HDG.out); clear T6 D6 J6 A6' N6 E6)
          | (go_at_call 16; (with_reducible refine (lready_to HC5.out.lim HS82.out HS8.out HYS.out HM.out).mono ?_); rintro e w6 ⟨A5, c5, rfl, T6⟩; obtain ⟨F8, D6, J6, A6', N6, E6⟩ := HC5.out.took T6; have HD6 := Lib.hid D6; have HJO := Lib.hid J6; have HJW := Lib.hid (HJ5.out.else E6 HA5.out); have HKB := Lib.hid (E6.kept (p := ⟨db, 1, none⟩) HKA.out HDF.out); clear T6 D6 J6 A6' N6 E6)
          | (go_at_call 15; (with_reducible refine (same_in HJO.out.rd HJW.out.rd).mono ?_); rintro e w8 ⟨rfl, U8⟩; have HT8 := Lib.hid (HD6.out.then U8); have HKC := Lib.hid (U8.kept HKB.out); clear U8))
      all_goals
        clear z0 z1 z2
        go_wp2_with fail
        go_loopw [12] (fun k wr => BkRel w8 k wr) (fun k _ => (4 - intOf k).toNat)
        case atStart => exact ⟨0, by omega, by simp, Up.refl _⟩
        case round =>
          obtain ⟨j, hj, rfl, hu⟩ := hrel
          have HU := Lib.hid hu
          have HTr := Lib.hid (HT8.out.then hu)
          clear hu
          by_cases hj5 : j < 5
          · by_cases hin : 1 ≤ j ∧ j ≤ 3
            · obtain ⟨k, rfl⟩ : ∃ k, j = k + 1 := ⟨j - 1, by omega⟩
              have hk : k < 3 := by omega
              have hk4 : (k : Int) < 4 := by omega
              have k0 : (0 : Int) ≤ (k : Int) := Int.natCast_nonneg _
              rw [show (((k + 1 : Nat) : Int) - 1) = (k : Int) by omega]
              obtain ⟨xk, hxk⟩ : ∃ xk, S8.L k = xk := ⟨_, rfl⟩
              obtain ⟨tk, htk⟩ : ∃ tk, S8.T k = tk := ⟨_, rfl⟩
              obtain ⟨m, hm⟩ : ∃ m, xk.length = m := ⟨_, rfl⟩
              have HBT := Lib.hid htk
              have HBL := Lib.hid hxk
              have HRT := Lib.hid ((HSM8.out.bucket hk).1.trans htk)
              have HRL := Lib.hid ((HSM8.out.bucket hk).2.trans hxk)
              have HLE := Lib.hid (show xk.length ≤ 8192 by rw [← hxk]; have : (S8.L k).length ≤ S8.size := Lb.len_le hk; have := HSZ8.out; omega)
              have HM := Lib.hid hm
              clear hxk htk hm hin
              go_wp2_with (first
                | (go_at_call 18; (with_reducible refine (bucket_to HTr.out.lim rfl hk HBT.out HBL.out HLE.out HM.out).mono ?_); rintro e wa ⟨Aa, ca, rfl, Ja, Fa, Ua⟩; have HJa := Lib.hid Ja; have HTa := Lib.hid (HTr.out.then Ua); have HUa := Lib.hid (HU.out.trans Ua); clear Ja Fa Ua)
                | (go_at_call 19; (with_reducible refine (rbucket_to HTa.out.rim rfl hk HRT.out HRL.out HLE.out HM.out).mono ?_); rintro e wb ⟨Ab, cb, rfl, Jb, Fb, Ub⟩; have HJb := Lib.hid Jb; have HJa2 := Lib.hid (HJa.out.up Ub); have HUb := Lib.hid (HUa.out.trans Ub); clear Jb Fb Ub)
                | (go_at_call 15; (with_reducible refine (same_in HJa2.out.rd HJb.out.rd).mono ?_); rintro e wc ⟨rfl, Uc⟩; have HUc := Lib.hid (HUb.out.trans Uc); clear Uc))
              go_roundw
              case rel => exact ⟨k + 2, by omega, by go_num, HUc.out⟩
              case measure => simp [intOf]; omega
            · have hio : j = 0 ∨ j = 4 := by omega
              clear hin
              rcases hio with rfl | rfl
              · rw [show (((0 : Nat) : Int) - 1) = -1 by omega]
                have HN1 := Lib.hid (show ¬ ((0 : Int) ≤ -1 ∧ (-1 : Int) < 3) by omega)
                go_wp2_with (first
                  | (go_at_call 18; (with_reducible refine (bucket_out HN1.out).mono ?_); rintro e wa ⟨rfl, rfl⟩)
                  | (go_at_call 19; (with_reducible refine (rbucket_out HN1.out).mono ?_); rintro e wb ⟨rfl, rfl⟩)
                  | (go_at_call 15; (with_reducible refine (same_in (Rd.nil _) (Rd.nil _)).mono ?_); rintro e wc ⟨rfl, Uc⟩; have HUc := Lib.hid (HU.out.trans Uc); clear Uc))
                go_roundw
                case rel => exact ⟨1, by omega, by go_num, HUc.out⟩
                case measure => simp [intOf]
              · rw [show (((4 : Nat) : Int) - 1) = 3 by omega]
                have HN1 := Lib.hid (show ¬ ((0 : Int) ≤ 3 ∧ (3 : Int) < 3) by omega)
                go_wp2_with (first
                  | (go_at_call 18; (with_reducible refine (bucket_out HN1.out).mono ?_); rintro e wa ⟨rfl, rfl⟩)
                  | (go_at_call 19; (with_reducible refine (rbucket_out HN1.out).mono ?_); rintro e wb ⟨rfl, rfl⟩)
                  | (go_at_call 15; (with_reducible refine (same_in (Rd.nil _) (Rd.nil _)).mono ?_); rintro e wc ⟨rfl, Uc⟩; have HUc := Lib.hid (HU.out.trans Uc); clear Uc))
                go_roundw
                case rel => exact ⟨5, by omega, by go_num, HUc.out⟩
                case measure => simp [intOf]
          · obtain rfl : j = 5 := by omega
            rw [show (((5 : Nat) : Int) - 1) = 4 by omega]
            obtain ⟨m, hm⟩ : ∃ m, S8.size = m := ⟨_, rfl⟩
            have HM := Lib.hid hm
            have HM2 := Lib.hid (HSM8.out.size.trans hm)
            have hm8 : m ≤ 8192 := by have := HSZ8.out; omega
            clear hm
            go_wp2_with (first
              | (go_at_call 20; (with_reducible refine (llen_to HTr.out.lim HM.out hm8).mono ?_); rintro e wa ⟨rfl, Ua⟩; have HTa := Lib.hid (HTr.out.then Ua); clear Ua)
              | (go_at_call 21; (with_reducible refine (rllen_to HTa.out.rim HM2.out hm8).mono ?_); rintro e wb ⟨rfl, Ub⟩; have HTb := Lib.hid (HTa.out.then Ub); clear Ub))
            go_roundw
            case rel => exact ⟨i + 1, F8, G8, S8, R8, by go_num, by omega, HTb.out, HSM8.out, HSZ8.out⟩
            case measure => simp [intOf]; omega

set_option maxRecDepth 100000 in
theorem lifted (os : Os) (started : os.Started) (H : Type) (enc : TypeId × Value → H) :
    ReturnsInHanded {} Try.checked os 3 .any (Rows.limboPlaysSpec.pre6 enc Try.prog Try.f3 Rows.limboPlaysRow.domain false) (Rows.limboPlaysSpec.post enc Try.prog Try.f3 false true false false) := by
  refine returnsInHanded_of_change (C := Try.checked) own started (by kernel_rfl) Try.func3
    (ChangeSpec.witness6 (enc := enc) (C := Try.checked) false ⟨#[], #[.slice none 0 0], []⟩ 8 (by kernel_rfl) (by kernel_rfl) (by kernel_rfl) (by kernel_rfl)) ?_
  intro W base args ds gs before hval0 hW hcnd _
  have hval : ∀ (j : Nat) t v, Try.f3.params[j]? = some t → args[j]? = some v → Value.okWide Try.prog W .any base t v := hval0
  have hW' := hW
  obtain ⟨p, q, hA0, hV, rfl, hfz, hnd⟩ := hW
  have hA : DataW.TrodAll enc Try.prog W 0 (fun _ => true) true Try.f3.params.toList args.toList ds p := hA0
  rw [Try.params3] at hA hval
  obtain ⟨v0, vs0, d0, ds0, p0, q0, hargs, rfl, rfl, h0, r0⟩ := trodAll_cons hA
  obtain ⟨rfl, rfl, rfl⟩ := trodAll_nil r0
  obtain rfl : args = #[v0] := by cases args; simp_all
  obtain ⟨rfl, rfl⟩ := trodVars_none hV
  have k0 := h0
  have lt0 : ∀ x ∈ p0, x.block < W.heap.size := by obtain ⟨m, hm⟩ := k0; exact DataW.trod_lt m _ _ _ hm
  obtain ⟨a0, len0, cap0, z0, rfl, w0⟩ := open_recs (ks := [.i .i64, .i .i64, .s]) Try.underlying22 Try.underlying30 (by kernel_rfl) (by kernel_rfl) rfl
    (fun j f k hf hk => match j, hf, hk with
      | 0, hf, hk => by simp at hf hk; subst hf hk; exact Try.underlying3
      | 1, hf, hk => by simp at hf hk; subst hf hk; exact Try.underlying3
      | 2, hf, hk => by simp at hf hk; subst hf hk; exact ⟨3, Try.underlying28, Try.underlying3, by kernel_rfl⟩
      | n + 3, hf, hk => by simp at hk) (hval 0 22 v0 rfl rfl) h0
  clear hA0 hval0
  refine (walk a0 len0 cap0 z0 W w0).mono fun e W' ⟨he, bel⟩ => ?_
  subst he
  exact ⟨_, rfl, _, _, _, [], _, [], hW', trodAll_mk1 (shut_bool Try.underlying4 _), (trodAll_cons_mk (Below.trod laidOut (by kernel_rfl) (of_decide_eq_true (by kernel_rfl)) k0 bel lt0) trodAll_mk0), rfl, Below.frame bel _, fun h => by cases h⟩

theorem over : Rows.limboPlaysRow.holds Try.pinned (OpenSpec.ofChange Rows.limboPlaysSpec) :=
  OpenClaim.holds_of_wide 3 Try.f3 rfl rfl rfl rfl rfl rfl rfl ⟨rfl, rfl, rfl, rfl, rfl⟩ rfl rfl rfl rfl rfl (by kernel_rfl) Try.func3 (by kernel_rfl)
    (of_decide_eq_true (by kernel_rfl)) (by unfold Func.isWrapper; first | (rw [if_pos (by decide +kernel)]; kernel_rfl) | (rw [if_neg (by decide +kernel)]; exact ⟨rfl, rfl⟩))
    (fun os started H enc _ => lifted os started H enc)

/-- THE STATEMENT -/
theorem proved : Rows.LimboPlaysSaid := over
#print axioms proved
end Go.Proofs.Ythajdabdiaogiaa.limboPlays
