/-
  One alone takes all chunks that there are, each once; then there is none; what is put back is spilt and given: all are in the pool.
-/
import Derived.Test.YtkopplnjomkleaaGreatPart34
import Derived.Test.YtkopplnjomkleaaGreatRows
import Derived.WalkKit
import Derived.ProofKit
import Derived.OpenShut
import Derived.ShutString
import Derived.ChangeOld
import Derived.Below
import Derived.Carry
import Derived.Lib.SmallJoins
import Derived.Deep.RegionHeldLaw
import Derived.Deep.RegionLaw
namespace Go.Proofs.YtkopplnjomkleaaGreat.supplyAll
open Go.ChangeShapes Go.WideShapes Go.ChangeAt Go.RowKit Go.Joins Go.Proofs.YtkopplnjomkleaaGreat W64
open Go.ChangeMaps (open_string shut_string)
set_option linter.unusedVariables false

theorem own : ownKnob Tryz.prog.godebug = none := by kernel_rfl
theorem laidOut : laidOutB Tryz.prog = true := by kernel_rfl


set_option maxHeartbeats 16000000 in
set_option maxRecDepth 100000 in
theorem walk (a0 : Int) (w : World) (w0 : (Lit.int .i64 a0).wf = true) :
    Calls Tryz.prog 4 #[.int .i64 a0] w fun e w' => e = .returned (.bool true) ∧ Up w w' := by
  clear w0
  go_enter Tryz.func4, Tryz.ntmps4
  go_upto_region 5 with (first
    | (go_at_call 5; (with_reducible refine (first13 _).mono ?_); rintro r wA ⟨rfl, UA⟩; have HUA := Lib.hid UA; clear UA)
    | (go_at_call 6; refine (config_any a0 _).mono ?_; rintro r wB ⟨c, rfl, hs, UB⟩; have HUB := Lib.hid (HUA.out.trans UB); have HS := Lib.hid hs; clear UB hs))
  obtain ⟨n, hn⟩ : ∃ n : Nat, (n : Int) = c.ch := ⟨c.ch.toNat, by have := HS.out.2.1; omega⟩
  obtain ⟨m, hm⟩ : ∃ m : Nat, (m : Int) = c.ca := ⟨c.ca.toNat, by have := HS.out.2.2.2.2.1; omega⟩
  obtain ⟨ba, hba⟩ : ∃ ba : Nat, (ba : Int) = c.ba := ⟨c.ba.toNat, by have := HS.out.2.2.2.2.2; omega⟩
  have HNUM := Lib.hid (show (n : Int) = c.ch ∧ (m : Int) = c.ca ∧ (ba : Int) = c.ba ∧ 1 ≤ n ∧ n ≤ 8 ∧ m ≤ 3 ∧ 1 ≤ ba ∧ ba ≤ 3 from ⟨hn, hm, hba, by have := HS.out.2.1; omega, by have := HS.out.2.1; omega, by have := HS.out.2.2.2.2.1; omega, by have := HS.out.2.2.2.2.2; omega, by have := HS.out.2.2.2.2.2; omega⟩)
  have n1 : 1 ≤ n := HNUM.out.2.2.2.1
  have n8 : n ≤ 8 := HNUM.out.2.2.2.2.1
  have m3 : m ≤ 3 := HNUM.out.2.2.2.2.2.1
  have b1 : 1 ≤ ba := HNUM.out.2.2.2.2.2.2.1
  have b3 : ba ≤ 3 := HNUM.out.2.2.2.2.2.2.2
  clear hn hm hba
  obtain ⟨bc, hbc⟩ : ∃ bc, wB.heap.size = bc := ⟨_, rfl⟩
  have HB := Lib.hid (Whole.new wB 25 #[.int .i64 c.wk, .int .i64 c.ch, .int .i64 c.wo, .int .i64 c.sl, .int .i64 c.ca, .int .i64 c.ba])
  have HU0 := Lib.hid (HUB.out.then_alloc (.cells #[.int .i64 c.wk, .int .i64 c.ch, .int .i64 c.wo, .int .i64 c.sl, .int .i64 c.ca, .int .i64 c.ba] 25))
  rw [hbc] at HB ⊢
  clear hbc
  generalize wB.alloc (.cells #[.int .i64 c.wk, .int .i64 c.ch, .int .i64 c.wo, .int .i64 c.sl, .int .i64 c.ca, .int .i64 c.ba] 25) = w0 at *
  have e0 := HB.out.cell (i := 0) (v := .int .i64 c.wk) rfl
  have e1 := HB.out.cell (i := 1) (v := .int .i64 c.ch) rfl
  have e2 := HB.out.cell (i := 2) (v := .int .i64 c.wo) rfl
  have e3 := HB.out.cell (i := 3) (v := .int .i64 c.sl) rfl
  have e4 := HB.out.cell (i := 4) (v := .int .i64 c.ca) rfl
  have e5 := HB.out.cell (i := 5) (v := .int .i64 c.ba) rfl
  go_upto_region 8 with (go_at_call 7; refine (made_one HS.out _).mono ?_; rintro r w5 ⟨a, rfl, l, LEN, rr, cp, b, vX, hla, hnum, A5, hc5⟩; have HA5 := Lib.hid A5; have HLA := Lib.hid (And.intro hla hnum); have HC5 := Lib.hid hc5; clear A5 hla hnum hc5)
  clear e0 e1 e2 e3 e4 e5
  have HLN := Lib.hid (show l.n = n ∧ 1 ≤ l.lk ∧ l.n ≤ 4096 ∧ 1 ≤ l.n ∧ l.lk + l.n ≤ LEN ∧ l.m = (m : Int) ∧ min (max l.c.ba 1) 8 = ba ∧ l.gs = (fun _ => none) from by
    obtain ⟨h1, h2, h3, h4, h5, h6⟩ := HLA.out.2
    have h7 := HNUM.out
    have h8 := may_small HS.out.may
    have h9 := lenN_is HS.out.may
    unfold fwN at h9
    have e4 : cutM c.ca = c.ca := by have := HS.out.2.2.2.2.1; unfold cutM; rw [if_neg (by omega), if_neg (by omega)]
    have e5 : l.c.ba = c.ba := by rw [h1]
    refine ⟨by omega, by omega, by omega, by omega, by omega, by rw [h4, e4]; omega, by rw [e5]; omega, h6⟩)
  have HAS := Lib.hid (all_start HA5.out rfl HLN.out.2.2.2.1 HLN.out.2.2.1 HLN.out.2.1 HLN.out.2.2.2.2.1)
  have HCE := Lib.hid (fun (T S : List Nat) (wx : World) (A : AlGo w0 l b (.slice (some ⟨rr, 0, none⟩) 1 cp) vX T S wx) => show wx.cell? ⟨bc, 1, none⟩ = some (.int .i64 (n : Int)) ∧ wx.cell? ⟨a, 1, none⟩ = some (.pointer (some ⟨l.q0, 0, none⟩)) from ⟨by rw [HNUM.out.1]; exact A.upW.kept (HB.out.cell rfl), by rw [← HLA.out.1]; exact A.obj.cell rfl⟩)
  have q2 : w5.cell? ⟨a, 2, none⟩ = some (.slice (some ⟨rr, 0, none⟩) 1 cp) := by rw [← HLA.out.1]; exact HA5.out.obj.cell rfl
  have q3 := HC5.out
  have e1 : w5.cell? ⟨bc, 1, none⟩ = some (.int .i64 (n : Int)) := by rw [HNUM.out.1]; exact HA5.out.upW.kept (HB.out.cell rfl)
  have hr := run_bools n (by omega)
  go_upto_region 10 with fail
  clear q2 q3 e1 hr
  rw [usedRow_nil]
  have HTA := Lib.hid (show TaSt w0 l b w5.heap.size (.slice (some ⟨rr, 0, none⟩) 1 cp) vX [] [] (w5.alloc (.cells (usedRow n []) 4)) from by have h := TaSt.start HAS.out; rw [HLN.out.1] at h; exact h)
  obtain ⟨gb, hgb⟩ : ∃ gb, w5.heap.size = gb := ⟨_, rfl⟩
  rw [hgb] at HTA ⊢
  clear hgb HA5 HAS HC5
  generalize w5.alloc (.cells (usedRow n []) 4) = w6 at *
  go_wp2_with fail
  go_loopw [8] (fun i wr => TaLoop w0 l b gb (.slice (some ⟨rr, 0, none⟩) 1 cp) vX i wr) (fun i _ => n - (intOf i).toNat)
  case atStart => exact ⟨0, [], rfl, Nat.zero_le _, rfl, HTA.out⟩
  case round =>
    obtain ⟨j, tk, rfl, hj, htk, A⟩ := hrel
    clear HTA
    have HA := Lib.hid A
    rw [HLN.out.1] at hj
    have e1 : wr.cell? ⟨bc, 1, none⟩ = some (.int .i64 (n : Int)) := by rw [HNUM.out.1]; exact A.1.upW.kept (HB.out.cell rfl)
    have HTK := Lib.hid htk
    clear A htk
    by_cases hlt : j < n
    · have i1 : (j : Int) < (n : Int) := by omega
      have HLT := Lib.hid (show j < n ∧ tk.length < l.n from ⟨hlt, by rw [HTK.out, HLN.out.1]; exact hlt⟩)
      clear hlt hj
      go_upto_region 14 with (go_at_call 14; refine (ta_take HA.out HLT.out.2 HLN.out.2.2.2.2.2.2.1 HLN.out.2.1).mono ?_; rintro r w7 ⟨x, steps, rfl, hx, A7⟩; have HA7 := Lib.hid A7; have HX := Lib.hid hx; clear A7 hx)
      clear e1
      have e1 : w7.cell? ⟨bc, 1, none⟩ = some (.int .i64 (n : Int)) := by rw [HNUM.out.1]; exact HA7.out.1.upW.kept (HB.out.cell rfl)
      have e5 : w7.cell? ⟨bc, 5, none⟩ = some (.int .i64 (ba : Int)) := by rw [HNUM.out.2.2.1]; exact HA7.out.1.upW.kept (HB.out.cell rfl)
      have cu := HA7.out.whole.cell (usedRow_get tk HX.out.1)
      rw [decide_eq_false HX.out.2.1] at cu
      have fu := HA7.out.whole.frozen x
      have x0 : (0 : Int) ≤ (x : Int) := Int.natCast_nonneg _
      have x1 : (x : Int) < (n : Int) := by have := HX.out.1; rw [HLN.out.1] at this; omega
      have x2 : ¬ (x : Int) < 0 := by omega
      have x3 : ¬ (n : Int) ≤ (x : Int) := by omega
      have y0 : ¬ (steps : Int) < 0 := by omega
      have y1 : ¬ (ba : Int) + 2 < (steps : Int) := by have := HX.out.2.2; omega
      go_wp2_with fail
      go_roundw
      case rel =>
        refine ⟨j + 1, x :: tk, ?_, by rw [HLN.out.1]; exact HLT.out.1, by rw [List.length_cons, HTK.out], ta_seen HA7.out HLN.out.2.2.2.2.2.2.2⟩
        first | rfl | exact all_num HLT.out.1 (by omega)
      case measure => first | exact meas_succ HLT.out.1 n8 (by decide) | (have hlt := HLT.out.1; show n - (intOf (.int .i64 ((j : Int) + 1))).toNat < n - (intOf (.int .i64 (j : Int))).toNat; have e : (intOf (.int .i64 ((j : Int) + 1))).toNat = j + 1 := rfl; have e2 : (intOf (.int .i64 (j : Int))).toNat = j := rfl; rw [e, e2]; omega)
    · have hjn : n = j := by omega
      subst hjn
      have i1 : ¬ (n : Int) < (n : Int) := by omega
      have HT0 := Lib.hid (show tk.length = l.n by rw [HTK.out, HLN.out.1])
      clear hlt hj
      have HNIL := Lib.hid (show ([] : List Nat).length ≤ 8192 ∧ ([] : List Nat).length = 0 from ⟨by decide, rfl⟩)
      go_upto_region 20 with (first
        | (go_at_call 14; refine (ta_dry HA.out HLN.out.2.2.2.2.2.2.2 HT0.out).mono ?_; rintro r w7 ⟨rfl, A7⟩; have HA7 := Lib.hid A7; clear A7)
        | (go_at_call 15; refine (all_stash HA7.out HNIL.out.1 HNIL.out.2).mono ?_; rintro r w8 ⟨A8v, c8, rfl, A8⟩; have HA8 := Lib.hid A8; clear A8))
      clear e1
      go_wp2_with fail
      go_loopw [15] (fun i wr => PuLoop w0 l b (.slice (some ⟨rr, 0, none⟩) 1 cp) vX i wr) (fun i _ => n - (intOf i).toNat)
      case atStart => exact ⟨0, rfl, Nat.zero_le _, HA8.out⟩
      case round =>
        obtain ⟨k, rfl, hk, A⟩ := hrel
        clear HA8
        have HA9 := Lib.hid A
        rw [HLN.out.1] at hk
        have e1 : wr.cell? ⟨bc, 1, none⟩ = some (.int .i64 (n : Int)) := by rw [HNUM.out.1]; exact A.upW.kept (HB.out.cell rfl)
        clear A
        by_cases hlt : k < n
        · have j1 : (k : Int) < (n : Int) := by omega
          have HLT := Lib.hid (show k < n ∧ k ≤ 4096 from ⟨hlt, by omega⟩)
          clear hlt hk
          go_wp2_with (go_at_call 16; refine (all_put HA9.out HLT.out.2).mono ?_; rintro r w9 ⟨rfl, A9⟩; have HA10 := Lib.hid A9; clear A9)
          go_roundw
          case rel =>
            refine ⟨k + 1, ?_, by rw [HLN.out.1]; exact HLT.out.1, HA10.out⟩
            first | rfl | exact all_num HLT.out.1 (by omega)
          case measure => first | exact meas_succ HLT.out.1 n8 (by decide) | (have hlt := HLT.out.1; show n - (intOf (.int .i64 ((k : Int) + 1))).toNat < n - (intOf (.int .i64 (k : Int))).toNat; have e : (intOf (.int .i64 ((k : Int) + 1))).toNat = k + 1 := rfl; have e2 : (intOf (.int .i64 (k : Int))).toNat = k := rfl; rw [e, e2]; omega)
        · have hkn : n = k := by omega
          subst hkn
          have j1 : ¬ (n : Int) < (n : Int) := by omega
          have e4 : wr.cell? ⟨bc, 4, none⟩ = some (.int .i64 (m : Int)) := by rw [HNUM.out.2.1]; exact HA9.out.upW.kept (HB.out.cell rfl)
          replace HA9 := Lib.hid (show AlGo w0 l b (.slice (some ⟨rr, 0, none⟩) 1 cp) vX (List.range l.n) [] wr from by have h := HA9.out; rw [← HLN.out.1] at h; exact h)
          clear hlt hk
          have HCE2 := Lib.hid (fun (bg : Nat) (lg T S : List Nat) (wx : World) (A : AlGv w0 l b bg (.slice (some ⟨rr, 0, none⟩) 1 cp) vX lg T S wx) => show wx.cell? ⟨bc, 1, none⟩ = some (.int .i64 (n : Int)) ∧ wx.cell? ⟨a, 1, none⟩ = some (.pointer (some ⟨l.q0, 0, none⟩)) from ⟨by rw [HNUM.out.1]; exact A.upW.kept (HB.out.cell rfl), by rw [← HLA.out.1]; exact A.obj.cell rfl⟩)
          have HM64 := Lib.hid (show m ≤ 64 by omega)
          obtain ⟨ov, hov⟩ : ∃ ov, n - m = ov := ⟨_, rfl⟩
          have HOV := Lib.hid (show l.n - m = ov by rw [HLN.out.1]; exact hov)
          obtain ⟨lg, T2, p1, p2, p3, p4, p5, p6, p7, p8⟩ := all_split l.n (ov := ov) (by rw [HLN.out.1]; omega)
          rw [HLN.out.1] at p4
          have HSP := Lib.hid (show (List.range l.n).take ov = lg ∧ (List.range l.n).drop ov = T2 ∧ lg.Nodup ∧ (∀ x ∈ lg, x < l.n ∧ x ∉ ([] : List Nat)) ∧ lg.length ≤ 300 ∧ lg ++ [] = lg from ⟨p1, p2, p5, fun x hx => ⟨p7 x hx, by simp⟩, by omega, by simp⟩)
          obtain ⟨SF, hSF⟩ : ∃ SF, T2 ++ lg = SF := ⟨_, rfl⟩
          have HSQ := Lib.hid (show T2.length ≤ 8000 ∧ (∀ x ∈ T2, x < l.n) ∧ T2.Nodup ∧ (∀ x ∈ T2, x < l.n ∧ x ∉ lg) ∧ T2.length ≤ 300 ∧ T2 ++ lg = SF from ⟨by omega, fun x hx => (p8 x hx).1, p6, p8, by omega, hSF⟩)
          have HNI2 := Lib.hid (show LnN [] 8192 0 from ⟨rfl, by decide⟩)
          have HSR := Lib.hid (show LnN SF l.n n from by
            have h : SF.length = n := by rw [← hSF, List.length_append]; omega
            exact ⟨h, by rw [HLN.out.1]; omega⟩)
          clear p1 p2 p5 p6 p7 p8 hSF
          rcases (show n < m ∨ n = m ∨ (m < n ∧ m = 0) ∨ (m < n ∧ 0 < m) by omega) with hc | hc | hc | hc
          · have hx1 : (n : Int) < (m : Int) := by omega
            have hx2 : (n : Int) - (m : Int) < 0 := by omega
            have HG1 := Lib.hid (show GvN lg 0 by unfold GvN; omega)
            have HG2 := Lib.hid (show GvN T2 ((n : Int) + 2) by unfold GvN; omega)
            have HLF := Lib.hid (show LnN T2 8192 n by unfold LnN; omega)
            have HLS := Lib.hid (show LnN lg l.n 0 by unfold LnN; rw [HLN.out.1]; omega)
            clear hov p3 p4
            go_upto_region 25 with fail
            clear e4
            have k1 : IntKind.i64.wrap ((n : Int) - 0) = (n : Int) := by rw [Int.sub_zero]; exact IntWalk.i64_in _ (by omega)
            have k2 : IntKind.i64.wrap (n : Int) = (n : Int) := IntWalk.i64_in _ (by omega)
            go_upto_region 28 with fail
            clear e1
            have HQ0 := Lib.hid (HCE.out _ _ _ (HA9.out.ups (up_drew _)))
            go_region_held3 (fun w' => w'.cell? ⟨bc, 1, none⟩ = some (.int .i64 (n : Int)) ∧ w'.cell? ⟨a, 1, none⟩ = some (.pointer (some ⟨l.q0, 0, none⟩)))
              ((first | with_reducible exact HQ4.out | with_reducible exact HQ3.out | with_reducible exact HQ2.out | with_reducible exact HQ1.out | with_reducible exact HQ0.out))
              (first
                | (go_at_call 18; refine (al_spill (HA9.out.ups (up_drew _)) HLN.out.2.2.2.2.2.1 HM64.out HOV.out HLN.out.2.2.1 HSP.out.1 HSP.out.2.1).mono ?_; rintro r wa ⟨bg, rfl, Ga⟩; have HGV := Lib.hid Ga; have HQ1 := Lib.hid (HCE2.out _ _ _ _ _ Ga); clear Ga)
                | (go_at_call 17; refine (al_givesN HGV.out HSP.out.2.2.1 HSP.out.2.2.2.1 HLN.out.2.1 HSP.out.2.2.2.2.1 HG1.out HSP.out.2.2.2.2.2).mono ?_; rintro r wb ⟨rfl, Ab⟩; have HA10 := Lib.hid Ab; have HQ2 := Lib.hid (HCE.out _ _ _ Ab); clear Ab)
                | (go_at_call 15; refine (al_stashN HA10.out HLF.out).mono ?_; rintro r wc ⟨Ac, cc, rfl, Acc⟩; have HA11 := Lib.hid Acc; have HQ3 := Lib.hid (HCE.out _ _ _ Acc); clear Acc)
                | (go_at_call 12; refine (al_listN HA11.out HLS.out).mono ?_; rintro r wd ⟨Ad, cd, rfl, Add⟩; have HA12 := Lib.hid Add; have HQ4 := Lib.hid (HCE.out _ _ _ Add); clear Add))
            all_goals
              go_upto_region 34 with (go_at_call 15; refine (al_stashN HA12.out HLF.out).mono ?_; rintro r wc2 ⟨Ac2, cc2, rfl, Acc2⟩; have HA13 := Lib.hid Acc2; clear Acc2)
              have HR0 := Lib.hid (HCE.out _ _ _ (HA13.out.ups (up_drew _)))
              go_region_held3 (fun w' => w'.cell? ⟨bc, 1, none⟩ = some (.int .i64 (n : Int)) ∧ w'.cell? ⟨a, 1, none⟩ = some (.pointer (some ⟨l.q0, 0, none⟩)))
                ((first | with_reducible exact HR4.out | with_reducible exact HR3.out | with_reducible exact HR2.out | with_reducible exact HR1.out | with_reducible exact HR0.out))
                (first
                  | (go_at_call 19; refine (all_all (HA13.out.ups (up_drew _)) HSQ.out.1 HSQ.out.2.1 HSQ.out.2.2.1).mono ?_; rintro r we ⟨bh, rfl, Ge⟩; have HGW := Lib.hid Ge; have HR1 := Lib.hid (HCE2.out _ _ _ _ _ Ge); clear Ge)
                  | (go_at_call 17; refine (al_givesN HGW.out HSQ.out.2.2.1 HSQ.out.2.2.2.1 HLN.out.2.1 HSQ.out.2.2.2.2.1 HG2.out HSQ.out.2.2.2.2.2).mono ?_; rintro r wf ⟨rfl, Af⟩; have HA14 := Lib.hid Af; have HR2 := Lib.hid (HCE.out _ _ _ Af); clear Af)
                  | (go_at_call 15; refine (al_stashN HA14.out HNI2.out).mono ?_; rintro r wg ⟨Ag, cg, rfl, Agg⟩; have HA15 := Lib.hid Agg; have HR3 := Lib.hid (HCE.out _ _ _ Agg); clear Agg)
                  | (go_at_call 12; refine (al_listN HA15.out HSR.out).mono ?_; rintro r wh ⟨Ah, ch, rfl, Ahh⟩; have HA16 := Lib.hid Ahh; have HR4 := Lib.hid (HCE.out _ _ _ Ahh); clear Ahh))
              all_goals
                go_wp2_with fail
                go_ret
                exact ⟨rfl, HU0.out.trans HA16.out.upW⟩
          · subst hc
            have hx2 : ¬ (n : Int) - (n : Int) < 0 := by omega
            have HG1 := Lib.hid (show GvN lg 0 by unfold GvN; omega)
            have HG2 := Lib.hid (show GvN T2 ((n : Int) + 2) by unfold GvN; omega)
            have HLF := Lib.hid (show LnN T2 8192 n by unfold LnN; omega)
            have HLS := Lib.hid (show LnN lg l.n 0 by unfold LnN; rw [HLN.out.1]; omega)
            clear hov p3 p4
            go_upto_region 25 with fail
            clear e4
            have k1 : IntKind.i64.wrap ((n : Int) - 0) = (n : Int) := by rw [Int.sub_zero]; exact IntWalk.i64_in _ (by omega)
            have k2 : IntKind.i64.wrap (n : Int) = (n : Int) := IntWalk.i64_in _ (by omega)
            go_upto_region 28 with fail
            clear e1
            have HQ0 := Lib.hid (HCE.out _ _ _ (HA9.out.ups (up_drew _)))
            go_region_held3 (fun w' => w'.cell? ⟨bc, 1, none⟩ = some (.int .i64 (n : Int)) ∧ w'.cell? ⟨a, 1, none⟩ = some (.pointer (some ⟨l.q0, 0, none⟩)))
              ((first | with_reducible exact HQ4.out | with_reducible exact HQ3.out | with_reducible exact HQ2.out | with_reducible exact HQ1.out | with_reducible exact HQ0.out))
              (first
                | (go_at_call 18; refine (al_spill (HA9.out.ups (up_drew _)) HLN.out.2.2.2.2.2.1 HM64.out HOV.out HLN.out.2.2.1 HSP.out.1 HSP.out.2.1).mono ?_; rintro r wa ⟨bg, rfl, Ga⟩; have HGV := Lib.hid Ga; have HQ1 := Lib.hid (HCE2.out _ _ _ _ _ Ga); clear Ga)
                | (go_at_call 17; refine (al_givesN HGV.out HSP.out.2.2.1 HSP.out.2.2.2.1 HLN.out.2.1 HSP.out.2.2.2.2.1 HG1.out HSP.out.2.2.2.2.2).mono ?_; rintro r wb ⟨rfl, Ab⟩; have HA10 := Lib.hid Ab; have HQ2 := Lib.hid (HCE.out _ _ _ Ab); clear Ab)
                | (go_at_call 15; refine (al_stashN HA10.out HLF.out).mono ?_; rintro r wc ⟨Ac, cc, rfl, Acc⟩; have HA11 := Lib.hid Acc; have HQ3 := Lib.hid (HCE.out _ _ _ Acc); clear Acc)
                | (go_at_call 12; refine (al_listN HA11.out HLS.out).mono ?_; rintro r wd ⟨Ad, cd, rfl, Add⟩; have HA12 := Lib.hid Add; have HQ4 := Lib.hid (HCE.out _ _ _ Add); clear Add))
            all_goals
              go_upto_region 34 with (go_at_call 15; refine (al_stashN HA12.out HLF.out).mono ?_; rintro r wc2 ⟨Ac2, cc2, rfl, Acc2⟩; have HA13 := Lib.hid Acc2; clear Acc2)
              have HR0 := Lib.hid (HCE.out _ _ _ (HA13.out.ups (up_drew _)))
              go_region_held3 (fun w' => w'.cell? ⟨bc, 1, none⟩ = some (.int .i64 (n : Int)) ∧ w'.cell? ⟨a, 1, none⟩ = some (.pointer (some ⟨l.q0, 0, none⟩)))
                ((first | with_reducible exact HR4.out | with_reducible exact HR3.out | with_reducible exact HR2.out | with_reducible exact HR1.out | with_reducible exact HR0.out))
                (first
                  | (go_at_call 19; refine (all_all (HA13.out.ups (up_drew _)) HSQ.out.1 HSQ.out.2.1 HSQ.out.2.2.1).mono ?_; rintro r we ⟨bh, rfl, Ge⟩; have HGW := Lib.hid Ge; have HR1 := Lib.hid (HCE2.out _ _ _ _ _ Ge); clear Ge)
                  | (go_at_call 17; refine (al_givesN HGW.out HSQ.out.2.2.1 HSQ.out.2.2.2.1 HLN.out.2.1 HSQ.out.2.2.2.2.1 HG2.out HSQ.out.2.2.2.2.2).mono ?_; rintro r wf ⟨rfl, Af⟩; have HA14 := Lib.hid Af; have HR2 := Lib.hid (HCE.out _ _ _ Af); clear Af)
                  | (go_at_call 15; refine (al_stashN HA14.out HNI2.out).mono ?_; rintro r wg ⟨Ag, cg, rfl, Agg⟩; have HA15 := Lib.hid Agg; have HR3 := Lib.hid (HCE.out _ _ _ Agg); clear Agg)
                  | (go_at_call 12; refine (al_listN HA15.out HSR.out).mono ?_; rintro r wh ⟨Ah, ch, rfl, Ahh⟩; have HA16 := Lib.hid Ahh; have HR4 := Lib.hid (HCE.out _ _ _ Ahh); clear Ahh))
              all_goals
                go_wp2_with fail
                go_ret
                exact ⟨rfl, HU0.out.trans HA16.out.upW⟩
          · have hx2 : ¬ (n : Int) - (m : Int) < 0 := by omega
            have HRW := Lib.hid (show (n : Int) - (m : Int) = (ov : Int) by omega)
            have HNO := Lib.hid (show n = ov by omega)
            have ovp : (0 : Int) < (ov : Int) := by omega
            have hovn : ov ≤ n := by omega
            have HG1 := Lib.hid (show GvN lg ((ov : Int) + 2) by unfold GvN; omega)
            have HG2 := Lib.hid (show GvN T2 0 by unfold GvN; omega)
            have HLF := Lib.hid (show LnN T2 8192 0 by unfold LnN; omega)
            have HLS := Lib.hid (show LnN lg l.n ov by unfold LnN; rw [HLN.out.1]; omega)
            clear hov p3 p4 hc
            go_upto_region 25 with fail
            clear e4
            rw [HRW.out]
            have ovb : (ov : Int) ≤ 8 := by omega
            have k1 : IntKind.i64.wrap ((n : Int) - (ov : Int)) = 0 := by rw [HNO.out, Int.sub_self]; rfl
            go_upto_region 28 with fail
            clear e1
            have HQ0 := Lib.hid (HCE.out _ _ _ (HA9.out.ups (up_drew _)))
            go_region_held3 (fun w' => w'.cell? ⟨bc, 1, none⟩ = some (.int .i64 (n : Int)) ∧ w'.cell? ⟨a, 1, none⟩ = some (.pointer (some ⟨l.q0, 0, none⟩)))
              ((first | with_reducible exact HQ4.out | with_reducible exact HQ3.out | with_reducible exact HQ2.out | with_reducible exact HQ1.out | with_reducible exact HQ0.out))
              (first
                | (go_at_call 18; refine (al_spill (HA9.out.ups (up_drew _)) HLN.out.2.2.2.2.2.1 HM64.out HOV.out HLN.out.2.2.1 HSP.out.1 HSP.out.2.1).mono ?_; rintro r wa ⟨bg, rfl, Ga⟩; have HGV := Lib.hid Ga; have HQ1 := Lib.hid (HCE2.out _ _ _ _ _ Ga); clear Ga)
                | (go_at_call 17; refine (al_givesN HGV.out HSP.out.2.2.1 HSP.out.2.2.2.1 HLN.out.2.1 HSP.out.2.2.2.2.1 HG1.out HSP.out.2.2.2.2.2).mono ?_; rintro r wb ⟨rfl, Ab⟩; have HA10 := Lib.hid Ab; have HQ2 := Lib.hid (HCE.out _ _ _ Ab); clear Ab)
                | (go_at_call 15; refine (al_stashN HA10.out HLF.out).mono ?_; rintro r wc ⟨Ac, cc, rfl, Acc⟩; have HA11 := Lib.hid Acc; have HQ3 := Lib.hid (HCE.out _ _ _ Acc); clear Acc)
                | (go_at_call 12; refine (al_listN HA11.out HLS.out).mono ?_; rintro r wd ⟨Ad, cd, rfl, Add⟩; have HA12 := Lib.hid Add; have HQ4 := Lib.hid (HCE.out _ _ _ Add); clear Add))
            all_goals
              go_upto_region 34 with (go_at_call 15; refine (al_stashN HA12.out HLF.out).mono ?_; rintro r wc2 ⟨Ac2, cc2, rfl, Acc2⟩; have HA13 := Lib.hid Acc2; clear Acc2)
              have HR0 := Lib.hid (HCE.out _ _ _ (HA13.out.ups (up_drew _)))
              go_region_held3 (fun w' => w'.cell? ⟨bc, 1, none⟩ = some (.int .i64 (n : Int)) ∧ w'.cell? ⟨a, 1, none⟩ = some (.pointer (some ⟨l.q0, 0, none⟩)))
                ((first | with_reducible exact HR4.out | with_reducible exact HR3.out | with_reducible exact HR2.out | with_reducible exact HR1.out | with_reducible exact HR0.out))
                (first
                  | (go_at_call 19; refine (all_all (HA13.out.ups (up_drew _)) HSQ.out.1 HSQ.out.2.1 HSQ.out.2.2.1).mono ?_; rintro r we ⟨bh, rfl, Ge⟩; have HGW := Lib.hid Ge; have HR1 := Lib.hid (HCE2.out _ _ _ _ _ Ge); clear Ge)
                  | (go_at_call 17; refine (al_givesN HGW.out HSQ.out.2.2.1 HSQ.out.2.2.2.1 HLN.out.2.1 HSQ.out.2.2.2.2.1 HG2.out HSQ.out.2.2.2.2.2).mono ?_; rintro r wf ⟨rfl, Af⟩; have HA14 := Lib.hid Af; have HR2 := Lib.hid (HCE.out _ _ _ Af); clear Af)
                  | (go_at_call 15; refine (al_stashN HA14.out HNI2.out).mono ?_; rintro r wg ⟨Ag, cg, rfl, Agg⟩; have HA15 := Lib.hid Agg; have HR3 := Lib.hid (HCE.out _ _ _ Agg); clear Agg)
                  | (go_at_call 12; refine (al_listN HA15.out HSR.out).mono ?_; rintro r wh ⟨Ah, ch, rfl, Ahh⟩; have HA16 := Lib.hid Ahh; have HR4 := Lib.hid (HCE.out _ _ _ Ahh); clear Ahh))
              all_goals
                go_wp2_with fail
                go_ret
                exact ⟨rfl, HU0.out.trans HA16.out.upW⟩
          · have hx2 : ¬ (n : Int) - (m : Int) < 0 := by omega
            have HRW := Lib.hid (show (n : Int) - (m : Int) = (ov : Int) by omega)
            obtain ⟨lf, hlf⟩ : ∃ lf, n - ov = lf := ⟨_, rfl⟩
            have ovp : (0 : Int) < (ov : Int) := by omega
            have lfp : (0 : Int) < (lf : Int) := by omega
            have hovn : ov ≤ n := by omega
            have lfb : (lf : Int) ≤ 8 := by omega
            have HG1 := Lib.hid (show GvN lg ((ov : Int) + 2) by unfold GvN; omega)
            have HG2 := Lib.hid (show GvN T2 ((lf : Int) + 2) by unfold GvN; omega)
            have HLF := Lib.hid (show LnN T2 8192 lf by unfold LnN; omega)
            have HLS := Lib.hid (show LnN lg l.n ov by unfold LnN; rw [HLN.out.1]; omega)
            clear hov p3 p4
            go_upto_region 25 with fail
            clear e4
            rw [HRW.out]
            have ovb : (ov : Int) ≤ 8 := by omega
            have k1 : IntKind.i64.wrap ((n : Int) - (ov : Int)) = (lf : Int) := by rw [show (n : Int) - (ov : Int) = (lf : Int) by omega]; exact IntWalk.i64_in _ (by omega)
            go_upto_region 28 with fail
            clear e1
            have HQ0 := Lib.hid (HCE.out _ _ _ (HA9.out.ups (up_drew _)))
            go_region_held3 (fun w' => w'.cell? ⟨bc, 1, none⟩ = some (.int .i64 (n : Int)) ∧ w'.cell? ⟨a, 1, none⟩ = some (.pointer (some ⟨l.q0, 0, none⟩)))
              ((first | with_reducible exact HQ4.out | with_reducible exact HQ3.out | with_reducible exact HQ2.out | with_reducible exact HQ1.out | with_reducible exact HQ0.out))
              (first
                | (go_at_call 18; refine (al_spill (HA9.out.ups (up_drew _)) HLN.out.2.2.2.2.2.1 HM64.out HOV.out HLN.out.2.2.1 HSP.out.1 HSP.out.2.1).mono ?_; rintro r wa ⟨bg, rfl, Ga⟩; have HGV := Lib.hid Ga; have HQ1 := Lib.hid (HCE2.out _ _ _ _ _ Ga); clear Ga)
                | (go_at_call 17; refine (al_givesN HGV.out HSP.out.2.2.1 HSP.out.2.2.2.1 HLN.out.2.1 HSP.out.2.2.2.2.1 HG1.out HSP.out.2.2.2.2.2).mono ?_; rintro r wb ⟨rfl, Ab⟩; have HA10 := Lib.hid Ab; have HQ2 := Lib.hid (HCE.out _ _ _ Ab); clear Ab)
                | (go_at_call 15; refine (al_stashN HA10.out HLF.out).mono ?_; rintro r wc ⟨Ac, cc, rfl, Acc⟩; have HA11 := Lib.hid Acc; have HQ3 := Lib.hid (HCE.out _ _ _ Acc); clear Acc)
                | (go_at_call 12; refine (al_listN HA11.out HLS.out).mono ?_; rintro r wd ⟨Ad, cd, rfl, Add⟩; have HA12 := Lib.hid Add; have HQ4 := Lib.hid (HCE.out _ _ _ Add); clear Add))
            all_goals
              go_upto_region 34 with (go_at_call 15; refine (al_stashN HA12.out HLF.out).mono ?_; rintro r wc2 ⟨Ac2, cc2, rfl, Acc2⟩; have HA13 := Lib.hid Acc2; clear Acc2)
              have HR0 := Lib.hid (HCE.out _ _ _ (HA13.out.ups (up_drew _)))
              go_region_held3 (fun w' => w'.cell? ⟨bc, 1, none⟩ = some (.int .i64 (n : Int)) ∧ w'.cell? ⟨a, 1, none⟩ = some (.pointer (some ⟨l.q0, 0, none⟩)))
                ((first | with_reducible exact HR4.out | with_reducible exact HR3.out | with_reducible exact HR2.out | with_reducible exact HR1.out | with_reducible exact HR0.out))
                (first
                  | (go_at_call 19; refine (all_all (HA13.out.ups (up_drew _)) HSQ.out.1 HSQ.out.2.1 HSQ.out.2.2.1).mono ?_; rintro r we ⟨bh, rfl, Ge⟩; have HGW := Lib.hid Ge; have HR1 := Lib.hid (HCE2.out _ _ _ _ _ Ge); clear Ge)
                  | (go_at_call 17; refine (al_givesN HGW.out HSQ.out.2.2.1 HSQ.out.2.2.2.1 HLN.out.2.1 HSQ.out.2.2.2.2.1 HG2.out HSQ.out.2.2.2.2.2).mono ?_; rintro r wf ⟨rfl, Af⟩; have HA14 := Lib.hid Af; have HR2 := Lib.hid (HCE.out _ _ _ Af); clear Af)
                  | (go_at_call 15; refine (al_stashN HA14.out HNI2.out).mono ?_; rintro r wg ⟨Ag, cg, rfl, Agg⟩; have HA15 := Lib.hid Agg; have HR3 := Lib.hid (HCE.out _ _ _ Agg); clear Agg)
                  | (go_at_call 12; refine (al_listN HA15.out HSR.out).mono ?_; rintro r wh ⟨Ah, ch, rfl, Ahh⟩; have HA16 := Lib.hid Ahh; have HR4 := Lib.hid (HCE.out _ _ _ Ahh); clear Ahh))
              all_goals
                go_wp2_with fail
                go_ret
                exact ⟨rfl, HU0.out.trans HA16.out.upW⟩

set_option maxRecDepth 100000 in
theorem lifted (os : Os) (started : os.Started) (H : Type) (enc : TypeId × Value → H) :
    ReturnsInHanded {} Tryz.checked os 4 .any (Rows.supplyAllSpec.pre6 enc Tryz.prog Tryz.f4 Rows.supplyAllRow.domain false) (Rows.supplyAllSpec.post enc Tryz.prog Tryz.f4 false true false false) := by
  refine returnsInHanded_of_change (C := Tryz.checked) own started (by kernel_rfl) Tryz.func4
    (ChangeSpec.witness6 (enc := enc) (C := Tryz.checked) false ⟨#[], #[.int .i64 0], []⟩ 8 (by kernel_rfl) (by kernel_rfl) (by kernel_rfl) (by kernel_rfl)) ?_
  intro W base args ds gs before hval0 hW hcnd _
  have hval : ∀ (j : Nat) t v, Tryz.f4.params[j]? = some t → args[j]? = some v → Value.okWide Tryz.prog W .any base t v := hval0
  have hW' := hW
  obtain ⟨p, q, hA0, hV, rfl, hfz, hnd⟩ := hW
  have hA : DataW.TrodAll enc Tryz.prog W 0 (fun _ => true) true Tryz.f4.params.toList args.toList ds p := hA0
  rw [Tryz.params4] at hA hval
  obtain ⟨v0, vs0, d0, ds0, p0, q0, hargs, rfl, rfl, h0, r0⟩ := trodAll_cons hA
  obtain ⟨rfl, rfl, rfl⟩ := trodAll_nil r0
  obtain rfl : args = #[v0] := by cases args; simp_all
  obtain ⟨rfl, rfl⟩ := trodVars_none hV
  have k0 := h0
  have lt0 : ∀ x ∈ p0, x.block < W.heap.size := by obtain ⟨m, hm⟩ := k0; exact DataW.trod_lt m _ _ _ hm
  obtain ⟨a0, rfl, rfl, rfl, w0⟩ := open_int Tryz.underlying3 (hval 0 3 v0 rfl rfl) h0
  clear hA0 hval0
  refine (walk a0 W w0).mono fun e W' ⟨he, bel⟩ => ?_
  subst he
  exact ⟨_, rfl, _, _, _, [], _, [], hW', trodAll_mk1 (shut_bool Tryz.underlying4 _), (trodAll_cons_mk (Below.trod laidOut (by kernel_rfl) (of_decide_eq_true (by kernel_rfl)) k0 bel lt0) trodAll_mk0), rfl, Below.frame bel _, fun h => by cases h⟩

theorem over : Rows.supplyAllRow.holds Tryz.pinned (OpenSpec.ofChange Rows.supplyAllSpec) :=
  OpenClaim.holds_of_wide 4 Tryz.f4 rfl rfl rfl rfl rfl rfl rfl ⟨rfl, rfl, rfl, rfl, rfl⟩ rfl rfl rfl rfl rfl (by kernel_rfl) Tryz.func4 (by kernel_rfl)
    (of_decide_eq_true (by kernel_rfl)) (by unfold Func.isWrapper; first | (rw [if_pos (by decide +kernel)]; kernel_rfl) | (rw [if_neg (by decide +kernel)]; exact ⟨rfl, rfl⟩))
    (fun os started H enc _ => lifted os started H enc)

/-- THE STATEMENT -/
theorem proved : Rows.SupplyAllSaid := over
#print axioms proved
end Go.Proofs.YtkopplnjomkleaaGreat.supplyAll
