/-
  Memories that are too small, configurations that may not be: there is no supply; tags that may not be retire nothing; what was retired is ready at its tag and 2.
-/
import Derived.Test.YtkopplnjomkleaaPart24
import Derived.Test.YtkopplnjomkleaaRows
import Derived.WalkKit
import Derived.ProofKit
import Derived.OpenShut
import Derived.ShutString
import Derived.ChangeOld
import Derived.Below
import Derived.Carry
import Derived.Lib.SmallJoins
import Derived.Deep.RegionHeldLaw
import Derived.Deep.RegionLaw
namespace Go.Proofs.Ytkopplnjomkleaa.supplyNone
open Go.ChangeShapes Go.WideShapes Go.ChangeAt Go.RowKit Go.Joins Go.Proofs.Ytkopplnjomkleaa W64
open Go.ChangeMaps (open_string shut_string)
set_option linter.unusedVariables false

theorem own : ownKnob Try.prog.godebug = none := by kernel_rfl
theorem laidOut : laidOutB Try.prog = true := by kernel_rfl


set_option maxHeartbeats 16000000 in
set_option maxRecDepth 100000 in
theorem walk (a0 : Int) (a1 : Int) (a2 : Int) (w : World) (w0 : (Lit.int .i64 a0).wf = true) (w1 : (Lit.int .i64 a1).wf = true) (w2 : (Lit.int .i64 a2).wf = true) :
    Calls Try.prog 4 #[.int .i64 a0, .int .i64 a1, .int .i64 a2] w fun e w' => e = .returned (.bool true) ∧ Up w w' := by
  clear w0 w1 w2
  obtain ⟨x, hx, _, x0, x1⟩ := emod_letter a2 1000 (by decide)
  obtain ⟨z, hz, _, z0, z1⟩ := emod_letter a1 100 (by decide)
  obtain ⟨t, ht⟩ : ∃ t, 1 + x = t := ⟨_, rfl⟩
  have t0 : 1 ≤ t := by omega
  have t1 : t ≤ 1000 := by omega
  obtain ⟨kk, hkk⟩ : ∃ kk : Nat, t % 3 = kk := ⟨(t % 3).toNat, by omega⟩
  have k3 : kk < 3 := by omega
  have tm : t.tmod 3 = (kk : Int) := by rw [← hkk]; exact Int.tmod_eq_emod_of_nonneg (by omega)
  have HX := Lib.hid hx
  have HZ := Lib.hid hz
  have HT := Lib.hid (show 1 ≤ t ∧ t ≤ 1000 ∧ t ≤ 4611686018427387903 ∧ t % 3 = kk ∧ kk < 3 from ⟨t0, t1, by omega, hkk, k3⟩)
  have e10 : IntKind.i64.wrap (1 + x) = t := by rw [ht]; exact IntWalk.i64_in _ (by omega)
  have e11 : wrap64 (1 + x) = t := by rw [ht]; exact wrap64_in (by omega) (by omega)
  have HNO := Lib.hid (show ¬ ((Lb.one kk t [0]).last ≤ t - 1 ∧ t - 1 ≤ 4611686018427387903) ∧ ¬ ((Lb.one kk t [0]).last ≤ -t ∧ -t ≤ 4611686018427387903) from ⟨fun h => by have h1 : t ≤ t - 1 := h.1; omega, fun h => by have h1 : t ≤ -t := h.1; omega⟩)
  have HRT := Lib.hid (show Lb.zero.retire kk t [0] = Lb.one kk t [0] ∧ [] ++ Lb.zero.taken kk t = [] from ⟨one_retire kk t [0], by rw [zero_taken]; rfl⟩)
  have HSZ := Lib.hid (show Lb.zero.size + 1 ≤ 8000 ∧ ([] : List Int).length + (Lb.zero.taken kk t).length ≤ 8192 ∧ ([] : List Int).length ≤ 8192 ∧ (Lb.one kk t [0]).size ≤ 8000 from ⟨by decide, by rw [zero_taken]; decide, by decide, by rw [one_size k3]; decide⟩)
  have HZL := Lib.hid (show Lb.zero.last ≤ t by show (0 : Int) ≤ t; omega)
  have HB_ := Lib.hid (show (Lb.one kk t [0]).T kk = t ∧ (Lb.one kk t [0]).L kk = [0] ∧ ([0] : List Int).length ≤ 8192 ∧ ([0] : List Int).length = 1 from ⟨one_T _ _ _, one_L _ _ _, by decide, rfl⟩)
  have HR1 := Lib.hid (one_outs_no (t := t) (zs := [0]) (now := t + 1) k3 (by simp) (by omega))
  obtain ⟨RX, hRX⟩ : ∃ RX, (Lb.one kk t [0]).rest (t + 2) = RX := ⟨_, rfl⟩
  have HR2 := Lib.hid (And.intro (one_outs_yes (t := t) (zs := [0]) (now := t + 2) k3 (by simp) (by omega)) hRX)
  have HNIL := Lib.hid (show ([] : List Int).length + ([] : List Int).length ≤ 8192 ∧ ([] : List Int).length = 0 ∧ ([] : List Int) ++ [] = [] from ⟨by decide, rfl, rfl⟩)
  have HONE := Lib.hid (show ([] : List Int).length + ([0] : List Int).length ≤ 8192 ∧ ([] : List Int) ++ [0] = [0] from ⟨by decide, rfl⟩)
  clear hx hz ht hkk k3 x0 x1 hRX
  go_enter Try.func4, Try.ntmps4
  go_upto_region 5 with (first
    | (go_at_call 5; (with_reducible refine (first13 _).mono ?_); rintro r wA ⟨rfl, UA⟩; have HUA := Lib.hid UA; clear UA)
    | (go_at_call 13; refine (config_any a0 _).mono ?_; rintro r wB ⟨c, rfl, hs, UB⟩; have HUB := Lib.hid (HUA.out.trans UB); have HS := Lib.hid hs; clear UB hs))
  obtain ⟨L, hL⟩ : ∃ L : Nat, lenN c = (L : Int) := ⟨(lenN c).toNat, by have := lenN_small HS.out.may; omega⟩
  have hLs := lenN_small HS.out.may
  rw [hL] at hLs
  obtain ⟨L1, L2⟩ := hLs
  have L3 : 2 ≤ L := by
    have h := lenN_is HS.out.may
    have h2 := may_small HS.out.may
    unfold fwN at h h2
    omega
  obtain ⟨j, hj, _, j0, j1⟩ := emod_letter a1 ((L : Int) - 1) (by omega)
  obtain ⟨N, hN⟩ : ∃ N : Nat, 1 + j = (N : Int) := ⟨(1 + j).toNat, by omega⟩
  have HJ := Lib.hid hj
  have HN := Lib.hid hN
  have HL := Lib.hid hL
  have HLN := Lib.hid (show 1 ≤ N ∧ N ≤ 8388608 ∧ (N : Int) < (L : Int) by omega)
  have n64 := Lib.hid (show (0 : Int) < (L : Int) - 1 ∧ (L : Int) - 1 < 9223372036854775808 by omega)
  have HBAD := Lib.hid (show mayB ⟨c.wk, c.ch, c.wo, c.sl, -1 - z, c.ba⟩ = false from mayB_not.2 (fun m => by have h1 := m.2.2.2.2.1; dsimp only at h1; omega))
  have HSM := Lib.hid (show ((St.zero N).xs.length : Int) < lenN c by rw [hL]; have e : (St.zero N).xs.length = N := by simp [St.zero]
                                                                      rw [e]; exact HLN.out.2.2)
  clear hL hj hN
  obtain ⟨bc, hbc⟩ : ∃ bc, wB.heap.size = bc := ⟨_, rfl⟩
  have HB := Lib.hid (Whole.new wB 24 #[.int .i64 c.wk, .int .i64 c.ch, .int .i64 c.wo, .int .i64 c.sl, .int .i64 c.ca, .int .i64 c.ba])
  have HU0 := Lib.hid (HUB.out.then_alloc (.cells #[.int .i64 c.wk, .int .i64 c.ch, .int .i64 c.wo, .int .i64 c.sl, .int .i64 c.ca, .int .i64 c.ba] 24))
  rw [hbc] at HB ⊢
  clear hbc
  generalize wB.alloc (.cells #[.int .i64 c.wk, .int .i64 c.ch, .int .i64 c.wo, .int .i64 c.sl, .int .i64 c.ca, .int .i64 c.ba] 24) = w0 at *
  have e0 := HB.out.cell (i := 0) (v := .int .i64 c.wk) rfl
  have e1 := HB.out.cell (i := 1) (v := .int .i64 c.ch) rfl
  have e2 := HB.out.cell (i := 2) (v := .int .i64 c.wo) rfl
  have e3 := HB.out.cell (i := 3) (v := .int .i64 c.sl) rfl
  have e4 := HB.out.cell (i := 4) (v := .int .i64 c.ca) rfl
  have e5 := HB.out.cell (i := 5) (v := .int .i64 c.ba) rfl
  go_upto_region 6 with (first
    | (go_at_call 15; refine (len_is (c := c) HL.out _).mono ?_; rintro r w2 ⟨rfl, U2⟩; have HU2 := Lib.hid (HU0.out.trans U2); have HB2 := Lib.hid (HB.out.up U2); clear U2)
    | (go_at_call 7; (with_reducible refine (number_is HJ.out n64.out.1 n64.out.2 _).mono ?_); rintro r w' ⟨rfl, rfl⟩)
    | (go_at_call 14; (with_reducible refine (new_is HN.out HLN.out.1 HLN.out.2.1 _).mono ?_); rintro r w4 ⟨rfl, M4, U4⟩; have HM4 := Lib.hid M4; have HU4 := Lib.hid (HU2.out.trans U4); have HB4 := Lib.hid (HB2.out.up U4); clear M4 U4))
  clear e0 e1 e2 e3 e4 e5
  obtain ⟨g, hg⟩ : ∃ g, w2.heap.size = g := ⟨_, rfl⟩
  obtain ⟨p, hp⟩ : ∃ p, g + 1 = p := ⟨_, rfl⟩
  rw [hg, hp] at HM4 ⊢
  clear hg hp
  have e0 := HB4.out.cell (i := 0) (v := .int .i64 c.wk) rfl
  have e1 := HB4.out.cell (i := 1) (v := .int .i64 c.ch) rfl
  have e2 := HB4.out.cell (i := 2) (v := .int .i64 c.wo) rfl
  have e3 := HB4.out.cell (i := 3) (v := .int .i64 c.sl) rfl
  have e4 := HB4.out.cell (i := 4) (v := .int .i64 c.ca) rfl
  have e5 := HB4.out.cell (i := 5) (v := .int .i64 c.ba) rfl
  go_upto_region 9 with (go_at_call 6; refine (made_one HS.out _).mono ?_; rintro r w5 ⟨a, rfl, l, LEN, rr, cp, b, vX, hla, hnum, A5, hc5⟩; have HA5 := Lib.hid (A5.base HU4.out); have HU5 := Lib.hid A5.upW; have HLA := Lib.hid (And.intro hla hnum.1); have HC5 := Lib.hid hc5; clear A5 hla hnum hc5)
  clear e0 e1 e2 e3 e4 e5
  have HB5 := Lib.hid (HB4.out.up HU5.out)
  have HM5 := Lib.hid (HM4.out.up HU5.out)
  have e0 := HB5.out.cell (i := 0) (v := .int .i64 c.wk) rfl
  have e1 := HB5.out.cell (i := 1) (v := .int .i64 c.ch) rfl
  have e2 := HB5.out.cell (i := 2) (v := .int .i64 c.wo) rfl
  have e3 := HB5.out.cell (i := 3) (v := .int .i64 c.sl) rfl
  have e4 := HB5.out.cell (i := 4) (v := .int .i64 c.ca) rfl
  have e5 := HB5.out.cell (i := 5) (v := .int .i64 c.ba) rfl
  go_upto_region 10 with (go_at_call 16; refine (suNew_small (c := c) HM5.out HS.out.may HSM.out).mono ?_; rintro r w6 ⟨rfl, U6⟩; have HU6 := Lib.hid U6; clear U6)
  clear e0 e1 e2 e3 e4 e5
  have HB6 := Lib.hid (HB5.out.up HU6.out)
  have HA6 := Lib.hid (HA5.out.ups HU6.out)
  have HC6 := Lib.hid (HU6.out.kept HC5.out)
  have e0 := HB6.out.cell (i := 0) (v := .int .i64 c.wk) rfl
  have e1 := HB6.out.cell (i := 1) (v := .int .i64 c.ch) rfl
  have e2 := HB6.out.cell (i := 2) (v := .int .i64 c.wo) rfl
  have e3 := HB6.out.cell (i := 3) (v := .int .i64 c.sl) rfl
  have e4 := HB6.out.cell (i := 4) (v := .int .i64 c.ca) rfl
  have e5 := HB6.out.cell (i := 5) (v := .int .i64 c.ba) rfl
  go_upto_region 11 with fail
  clear e0 e1 e2 e3 e4 e5
  obtain ⟨bb, hbb⟩ : ∃ bb, w6.heap.size = bb := ⟨_, rfl⟩
  have HBB := Lib.hid (Whole.new w6 24 #[.int .i64 c.wk, .int .i64 c.ch, .int .i64 c.wo, .int .i64 c.sl, .int .i64 c.ca, .int .i64 c.ba])
  have HUW := Lib.hid (Up.alloc w6 (.cells #[.int .i64 c.wk, .int .i64 c.ch, .int .i64 c.wo, .int .i64 c.sl, .int .i64 c.ca, .int .i64 c.ba] 24))
  have HSZB := Lib.hid (show bb = w6.heap.size from hbb.symm)
  rw [hbb] at HBB ⊢
  clear hbb
  generalize w6.alloc (.cells #[.int .i64 c.wk, .int .i64 c.ch, .int .i64 c.wo, .int .i64 c.sl, .int .i64 c.ca, .int .i64 c.ba] 24) = w7 at *
  have d4 := HBB.out.cell (i := 4) (v := .int .i64 c.ca) rfl
  have f4 := HBB.out.frozen 4
  have z2 : z < 100 := z1
  go_upto_region 12 with (go_at_call 7; (with_reducible refine (number_is HZ.out (by decide) (by decide) _).mono ?_); rintro r w' ⟨rfl, rfl⟩)
  have HU8 := Lib.hid (show Up w6 (w7.setCell ⟨bb, 4, none⟩ (.int .i64 (-1 - z))) from HUW.out.set (by rw [HSZB.out]; exact Nat.le_refl _) _)
  have HA8 := Lib.hid (HA6.out.ups HU8.out)
  have HC8 := Lib.hid (HU8.out.kept HC6.out)
  have HB8 := Lib.hid (show Whole (w7.setCell ⟨bb, 4, none⟩ (.int .i64 (-1 - z))) bb 24 #[.int .i64 c.wk, .int .i64 c.ch, .int .i64 c.wo, .int .i64 c.sl, .int .i64 (-1 - z), .int .i64 c.ba] from HBB.out.set 4 _)
  clear d4 f4
  generalize w7.setCell ⟨bb, 4, none⟩ (.int .i64 (-1 - z)) = w8 at *
  obtain ⟨ha1, hc1⟩ := HLA.out
  have HD := Lib.hid (show w8.drew.cell? ⟨a, 0, none⟩ = some (.pointer (some ⟨l.p, 0, none⟩)) ∧ w8.drew.cell? ⟨bb, 0, none⟩ = some (.int .i64 c.wk) ∧ w8.drew.cell? ⟨bb, 1, none⟩ = some (.int .i64 c.ch) ∧ w8.drew.cell? ⟨bb, 2, none⟩ = some (.int .i64 c.wo) ∧ w8.drew.cell? ⟨bb, 3, none⟩ = some (.int .i64 c.sl) ∧ w8.drew.cell? ⟨bb, 4, none⟩ = some (.int .i64 (-1 - z)) ∧ w8.drew.cell? ⟨bb, 5, none⟩ = some (.int .i64 c.ba) from ⟨by rw [← ha1]; exact (up_drew w8).kept (HA8.out.obj.cell rfl), (up_drew w8).kept (HB8.out.cell rfl), (up_drew w8).kept (HB8.out.cell rfl), (up_drew w8).kept (HB8.out.cell rfl), (up_drew w8).kept (HB8.out.cell rfl), (up_drew w8).kept (HB8.out.cell rfl), (up_drew w8).kept (HB8.out.cell rfl)⟩)
  clear ha1 hc1
  go_region_held3 (fun w' => w'.cell? ⟨a, 0, none⟩ = some (.pointer (some ⟨l.p, 0, none⟩)) ∧ w'.cell? ⟨bb, 0, none⟩ = some (.int .i64 c.wk) ∧ w'.cell? ⟨bb, 1, none⟩ = some (.int .i64 c.ch) ∧ w'.cell? ⟨bb, 2, none⟩ = some (.int .i64 c.wo) ∧ w'.cell? ⟨bb, 3, none⟩ = some (.int .i64 c.sl) ∧ w'.cell? ⟨bb, 4, none⟩ = some (.int .i64 (-1 - z)) ∧ w'.cell? ⟨bb, 5, none⟩ = some (.int .i64 c.ba))
    ((first | with_reducible exact HD9.out | with_reducible exact HD.out))
    (first
      | (go_at_call 16; refine (suNew_bad (c := ⟨c.wk, c.ch, c.wo, c.sl, -1 - z, c.ba⟩) HBAD.out _ _).mono ?_; rintro r w9 ⟨rfl, U9⟩; have HU9 := Lib.hid ((up_drew w8).trans U9); have HD9 := Lib.hid (show w9.cell? ⟨a, 0, none⟩ = some (.pointer (some ⟨l.p, 0, none⟩)) ∧ w9.cell? ⟨bb, 0, none⟩ = some (.int .i64 c.wk) ∧ w9.cell? ⟨bb, 1, none⟩ = some (.int .i64 c.ch) ∧ w9.cell? ⟨bb, 2, none⟩ = some (.int .i64 c.wo) ∧ w9.cell? ⟨bb, 3, none⟩ = some (.int .i64 c.sl) ∧ w9.cell? ⟨bb, 4, none⟩ = some (.int .i64 (-1 - z)) ∧ w9.cell? ⟨bb, 5, none⟩ = some (.int .i64 c.ba) from ⟨U9.kept HD.out.1, U9.kept HD.out.2.1, U9.kept HD.out.2.2.1, U9.kept HD.out.2.2.2.1, U9.kept HD.out.2.2.2.2.1, U9.kept HD.out.2.2.2.2.2.1, U9.kept HD.out.2.2.2.2.2.2⟩); clear U9))
  have HA9 := Lib.hid (HA8.out.ups HU9.out)
  have HC9 := Lib.hid (HU9.out.kept HC8.out)
  have q2 : w9.cell? ⟨a, 2, none⟩ = some (.slice (some ⟨rr, 0, none⟩) 1 cp) := by rw [← HLA.out.1]; exact HA9.out.obj.cell rfl
  have q3 := HC9.out
  obtain ⟨s0, hs0⟩ : ∃ s0, mem13 l LEN = s0 := ⟨_, rfl⟩
  have HCNT := Lib.hid (show s0.c = 0 by rw [← hs0]; exact mem13_c l LEN)
  rw [hs0] at HA9
  clear hs0 HA8 HA6 HA5
  go_upto_region 15 with (first
    | (go_at_call 7; (with_reducible refine (number_is HX.out (by decide) (by decide) _).mono ?_); rintro r w' ⟨rfl, rfl⟩))
  clear q3
  go_upto_region 18 with (first
    | (go_at_call 9; (with_reducible refine (lcRetire HA9.out 0 HZL.out HT.out.2.2.1 HT.out.2.2.2.1 HSZ.out.1 HSZ.out.2.1 HRT.out.1 HRT.out.2).mono ?_); rintro r w10 ⟨rfl, A10⟩; have HA10 := Lib.hid A10; clear A10)
    | (go_at_call 9; (with_reducible refine (lcRetire_no HA10.out 1 HNO.out.1 HSZ.out.2.2.1).mono ?_); rintro r w11 ⟨rfl, A11⟩; have HA11 := Lib.hid A11; clear A11)
    | (go_at_call 9; (with_reducible refine (lcRetire_no HA11.out 1 HNO.out.2 HSZ.out.2.2.1).mono ?_); rintro r w12 ⟨rfl, A12⟩; have HA12 := Lib.hid A12; clear A12)
    | (go_at_call 9; (with_reducible refine (lcRetire_nil HA12.out HSZ.out.2.2.1).mono ?_); rintro r w13 ⟨rfl, A13⟩; have HA13 := Lib.hid A13; clear A13)
    | (go_at_call 17; (with_reducible refine (lcBucketK HA13.out HT.out.2.2.2.2 HB_.out.1 HB_.out.2.1 HB_.out.2.2.1 HB_.out.2.2.2).mono ?_); rintro r w14 ⟨A14v, cp14, rfl, A14⟩; have HA14 := Lib.hid A14; clear A14))
  clear q2
  go_wp2_with (first
    | (go_at_call 11; (with_reducible refine (lcStash HA14.out HSZ.out.2.2.1 HNIL.out.2.1).mono ?_); rintro r w15 ⟨A15v, cp15, rfl, A15⟩; have HA15 := Lib.hid A15; have q0 : w15.cell? ⟨a, 0, none⟩ = some (.pointer (some ⟨l.p, 0, none⟩)) := (by rw [← HLA.out.1]; exact A15.obj.cell rfl); clear A15)
    | (go_at_call 18; (with_reducible refine (count_to HA15.out.mem HCNT.out).mono ?_); rintro r w' ⟨rfl, rfl⟩)
    | (go_at_call 19; (with_reducible refine (lcReady HA15.out HSZ.out.2.2.2 HR1.out.1 HR1.out.2 HNIL.out.1 HNIL.out.2.1 HNIL.out.2.2).mono ?_); rintro r w16 ⟨rfl, A16⟩; have HA16 := Lib.hid A16; clear A16)
    | (go_at_call 19; (with_reducible refine (lcReady HA16.out HSZ.out.2.2.2 HR2.out.1 HR2.out.2 HONE.out.1 HB_.out.2.2.2 HONE.out.2).mono ?_); rintro r w17 ⟨rfl, A17⟩; have HA17 := Lib.hid A17; clear A17)
    | (go_at_call 11; (with_reducible refine (lcStash HA17.out HB_.out.2.2.1 HB_.out.2.2.2).mono ?_); rintro r w18 ⟨A18v, cp18, rfl, A18⟩; have HA18 := Lib.hid A18; clear A18))
  go_ret
  exact ⟨rfl, HA18.out.upW⟩

set_option maxRecDepth 100000 in
theorem lifted (os : Os) (started : os.Started) (H : Type) (enc : TypeId × Value → H) :
    ReturnsInHanded {} Try.checked os 4 .any (Rows.supplyNoneSpec.pre6 enc Try.prog Try.f4 Rows.supplyNoneRow.domain false) (Rows.supplyNoneSpec.post enc Try.prog Try.f4 false true false false) := by
  refine returnsInHanded_of_change (C := Try.checked) own started (by kernel_rfl) Try.func4
    (ChangeSpec.witness6 (enc := enc) (C := Try.checked) false ⟨#[], #[.int .i64 0, .int .i64 0, .int .i64 0], []⟩ 8 (by kernel_rfl) (by kernel_rfl) (by kernel_rfl) (by kernel_rfl)) ?_
  intro W base args ds gs before hval0 hW hcnd _
  have hval : ∀ (j : Nat) t v, Try.f4.params[j]? = some t → args[j]? = some v → Value.okWide Try.prog W .any base t v := hval0
  have hW' := hW
  obtain ⟨p, q, hA0, hV, rfl, hfz, hnd⟩ := hW
  have hA : DataW.TrodAll enc Try.prog W 0 (fun _ => true) true Try.f4.params.toList args.toList ds p := hA0
  rw [Try.params4] at hA hval
  obtain ⟨v0, vs0, d0, ds0, p0, q0, hargs, rfl, rfl, h0, r0⟩ := trodAll_cons hA
  obtain ⟨v1, vs1, d1, ds1, p1, q1, rfl, rfl, rfl, h1, r1⟩ := trodAll_cons r0
  obtain ⟨v2, vs2, d2, ds2, p2, q2, rfl, rfl, rfl, h2, r2⟩ := trodAll_cons r1
  obtain ⟨rfl, rfl, rfl⟩ := trodAll_nil r2
  obtain rfl : args = #[v0, v1, v2] := by cases args; simp_all
  obtain ⟨rfl, rfl⟩ := trodVars_none hV
  have k0 := h0
  have lt0 : ∀ x ∈ p0, x.block < W.heap.size := by obtain ⟨m, hm⟩ := k0; exact DataW.trod_lt m _ _ _ hm
  obtain ⟨a0, rfl, rfl, rfl, w0⟩ := open_int Try.underlying3 (hval 0 3 v0 rfl rfl) h0
  have k1 := h1
  have lt1 : ∀ x ∈ p1, x.block < W.heap.size := by obtain ⟨m, hm⟩ := k1; exact DataW.trod_lt m _ _ _ hm
  obtain ⟨a1, rfl, rfl, rfl, w1⟩ := open_int Try.underlying3 (hval 1 3 v1 rfl rfl) h1
  have k2 := h2
  have lt2 : ∀ x ∈ p2, x.block < W.heap.size := by obtain ⟨m, hm⟩ := k2; exact DataW.trod_lt m _ _ _ hm
  obtain ⟨a2, rfl, rfl, rfl, w2⟩ := open_int Try.underlying3 (hval 2 3 v2 rfl rfl) h2
  clear hA0 hval0
  refine (walk a0 a1 a2 W w0 w1 w2).mono fun e W' ⟨he, bel⟩ => ?_
  subst he
  exact ⟨_, rfl, _, _, _, [], _, [], hW', trodAll_mk1 (shut_bool Try.underlying4 _), (trodAll_cons_mk (Below.trod laidOut (by kernel_rfl) (of_decide_eq_true (by kernel_rfl)) k0 bel lt0) (trodAll_cons_mk (Below.trod laidOut (by kernel_rfl) (of_decide_eq_true (by kernel_rfl)) k1 bel lt1) (trodAll_cons_mk (Below.trod laidOut (by kernel_rfl) (of_decide_eq_true (by kernel_rfl)) k2 bel lt2) trodAll_mk0))), rfl, Below.frame bel _, fun h => by cases h⟩

theorem over : Rows.supplyNoneRow.holds Try.pinned (OpenSpec.ofChange Rows.supplyNoneSpec) :=
  OpenClaim.holds_of_wide 4 Try.f4 rfl rfl rfl rfl rfl rfl rfl ⟨rfl, rfl, rfl, rfl, rfl⟩ rfl rfl rfl rfl rfl (by kernel_rfl) Try.func4 (by kernel_rfl)
    (of_decide_eq_true (by kernel_rfl)) (by unfold Func.isWrapper; first | (rw [if_pos (by decide +kernel)]; kernel_rfl) | (rw [if_neg (by decide +kernel)]; exact ⟨rfl, rfl⟩))
    (fun os started H enc _ => lifted os started H enc)

/-- THE STATEMENT -/
theorem proved : Rows.SupplyNoneSaid := over
#print axioms proved
end Go.Proofs.Ytkopplnjomkleaa.supplyNone
