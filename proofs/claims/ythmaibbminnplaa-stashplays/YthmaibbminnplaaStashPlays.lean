/-
  StashPlays of layer 8: whatever is given and taken, what each call answers and what is there are what the reference says; for every list of at most 60 things.
-/
import Derived.Test.YthmaibbminnplaaRows
import Derived.Test.YthmaibbminnplaaStashPlay
import Derived.WalkKit
import Derived.ProofKit
import Derived.OpenShut
import Derived.ShutString
import Derived.ChangeOld
import Derived.Below
import Derived.Carry
import Derived.Lib.SmallJoins
import Derived.Deep.RegionHeld3
import Derived.Deep.RegionLaw
import Derived.BigQuiet
namespace Go.Proofs.Ythmaibbminnplaa.stashPlays
open Go.ChangeShapes Go.WideShapes Go.ChangeAt Go.RowKit Go.Joins Go.Proofs.Ythmaibbminnplaa W64
open Go.ChangeMaps (open_string shut_string)
set_option linter.unusedVariables false

theorem own : ownKnob Try.prog.godebug = none := by kernel_rfl
theorem laidOut : laidOutB Try.prog = true := by kernel_rfl


set_option maxHeartbeats 16000000 in
set_option maxRecDepth 100000 in
theorem walk (a0 : Int) (a1 : Option Addr) (len1 cap1 : Nat) (z1 : Nat → Nat → Value) (w : World) (w0 : (Lit.int .i64 a0).wf = true) (w1 : IsRecs [.i .i64, .s] w a1 len1 cap1 z1) :
    Calls Try.prog 3 #[.int .i64 a0, .slice a1 len1 cap1] w fun e w' => e = .returned (.bool true) ∧ Up w w' := by
  clear w0
  have hm := w1.len_le
  unfold maxLen at hm
  have HW1 := Lib.hid w1
  clear w1
  by_cases hlen : len1 ≤ 60
  rotate_left
  · have hl2 : 60 < len1 := by omega
    go_enter Try.func3, Try.ntmps3
    go_wp2_with (first
      | (go_at_call 7; refine (first_any _).mono ?_; rintro e wA ⟨rfl, UA⟩))
    go_ret
    exact ⟨rfl, UA⟩
  obtain ⟨m, hm0⟩ : ∃ m, cutM a0 = m := ⟨_, rfl⟩
  have HC := Lib.hid hm0
  have HMB := Lib.hid (show 0 ≤ m ∧ m ≤ 64 by rw [← hm0]; exact cutM_bounds a0)
  clear hm0
  go_enter Try.func3, Try.ntmps3
  go_wp2_with (first
    | (go_at_call 7; refine (first_any _).mono ?_; rintro e wA ⟨rfl, UA⟩)
    | (go_at_call 8; (with_reducible refine (snew_q _ _ HC.out).mono ?_); rintro e wB ⟨q, rfl, MB, -⟩; have HM1 := Lib.hid MB; clear MB)
    | (go_at_call 9; (with_reducible refine (rsnew_q _ _ HC.out).mono ?_); rintro e wC ⟨p, rfl, MC⟩; have HM2 := Lib.hid MC; clear MC))
  have HUA := Lib.hid UA
  have HT0 := Lib.hid (pair_new HM1.out HM2.out.sta HM2.out.up HM2.out.new)
  clear UA
  go_loopw [8] (fun i wr => PlayRel wA q p m len1 i wr) (fun i _ => len1 - (intOf i).toNat)
  case atStart => exact ⟨0, _, _, _, rfl, Nat.zero_le _, by simp, HT0.out⟩
  case round =>
    obtain ⟨i, ys, F, G, rfl, him, hsz, T⟩ := hrel
    have HT := Lib.hid T
    clear T
    have i0 : (0 : Int) ≤ (i : Int) := Int.natCast_nonneg _
    by_cases hlt : i < len1
    rotate_left
    · have i1 : ¬ (i : Int) < (len1 : Int) := by omega
      go_wp2_with fail
      go_ret
      exact ⟨rfl, HUA.out.trans HT.out.up⟩
    have i1 : (i : Int) < (len1 : Int) := by omega
    obtain ⟨b, off, kd, it, xs, rfl, hb, c0, c1, R0⟩ := HW1.out.do2 hlt
    obtain ⟨A, N, c, rfl⟩ : ∃ A N c, it = .slice A N c := by obtain ⟨A, c, e⟩ := R0.slice; exact ⟨A, _, c, e⟩
    have HNX := Lib.hid (show xs.length = N by obtain ⟨A', c', e⟩ := R0.slice; injection e with _ e2 _; exact e2.symm)
    have HR0 := Lib.hid (R0.up HUA.out)
    have HU0 := Lib.hid (HUA.out.trans HT.out.up)
    replace c0 := HU0.out.kept c0
    replace c1 := HU0.out.kept c1
    clear R0 hb
    go_upto_region 14 with fail
    obtain ⟨db, hdb⟩ : ∃ db, wr.heap.size = db := ⟨_, rfl⟩
    have y0 : (wr.alloc (.cells #[.int .i64 kd, .slice A N c] 30)).cell? ⟨db, 0, none⟩ = some (.int .i64 kd) := cell_new hdb.symm rfl
    have y1 : (wr.alloc (.cells #[.int .i64 kd, .slice A N c] 30)).cell? ⟨db, 1, none⟩ = some (.slice A N c) := cell_new hdb.symm rfl
    have HT1 := Lib.hid (HT.out.then (Up.alloc wr (.cells #[.int .i64 kd, .slice A N c] 30)))
    have HDF := Lib.hid (show db ∉ F from fun h => by have := HT.out.a.lt db h; omega)
    rw [hdb]
    generalize wr.alloc (.cells #[.int .i64 kd, .slice A N c] 30) = w1 at *
    clear hdb c0 c1
    by_cases hn40 : 40 < N
    · go_wp2_with fail
      go_ret
      exact ⟨rfl, HUA.out.trans HT1.out.up⟩
    have HY1 := Lib.hid y1
    have HYS := Lib.hid (show ys.length ≤ 2400 by omega)
    have HYL := Lib.hid hsz
    have HN40 := Lib.hid (show N ≤ 40 by omega)
    obtain ⟨kk, hkk, _, kk0, kk1⟩ := emod_letter kd 5 (by decide)
    have HKK := Lib.hid hkk
    clear hkk
    have hways : kk = 0 ∨ kk = 1 ∨ kk = 2 ∨ kk = 3 ∨ kk = 4 := by omega
    clear kk0 kk1
    rcases hways with rfl | rfl | rfl | rfl | rfl
    · have HL1 := Lib.hid (show ([] : List Int).length + xs.length ≤ 8192 by simp; have := HNX.out; have := HN40.out; omega)
      have HL2 := Lib.hid (show ys.length + ([] ++ xs).length ≤ 8192 by simp; have := HNX.out; have := HN40.out; have := HYS.out; omega)
      have HL3 := Lib.hid (show ys.length + xs.length ≤ 8192 by have := HNX.out; have := HN40.out; have := HYS.out; omega)
      go_upto_region 31 with (first
        | (go_at_call 10; (with_reducible refine (number_is HKK.out (by decide) (by decide) _).mono ?_); rintro e w' ⟨rfl, rfl⟩)
        | (at_builtin; refine wpList_app (v := .slice none 0 0) rfl _ _ rfl rfl rfl (Ints.nil _) (HR0.out.up HT1.out.up) HL1.out ?_; intro v5 w5 J5 G5 A5; obtain ⟨B5, M5, k5, rfl⟩ := shapeI J5; have HJ5 := Lib.hid J5; have HU5 := Lib.hid (app_new G5 A5); clear J5 G5 A5)
        | (go_at_call 11; (with_reducible refine (sgive_any (HT1.out.a.up HU5.out.1) HJ5.out.rd HL2.out).mono ?_); rintro e w6 ⟨rfl, G6⟩; obtain ⟨F6, P6, -, E6⟩ := (HT1.out.then HU5.out.1).gaveA G6; have HT6 := Lib.hid P6; have y6 := E6.kept (p := ⟨db, 1, none⟩) (HU5.out.1.kept HY1.out) HDF.out; clear G6 P6 E6)
        | (go_at_call 12; (with_reducible refine (rsgive_any HT6.out.b (HR0.out.up HT6.out.up) HL3.out).mono ?_); rintro e w8 ⟨rfl, G8⟩; obtain ⟨G9, P8, -, -⟩ := HT6.out.gaveB G8; rw [List.nil_append] at P8; have HT8 := Lib.hid P8; clear G8 P8))
      obtain ⟨xs8, hx8⟩ : ∃ xs8, ys ++ xs = xs8 := ⟨_, rfl⟩
      have HSZ8 := Lib.hid (show xs8.length ≤ 40 * (i + 1) by rw [← hx8, List.length_append]; have := HNX.out; have := HN40.out; have := HYL.out; omega)
      rw [hx8] at HT8
      clear hx8 y0 y1 y6
      have HL8 := Lib.hid (show xs8.length ≤ 8192 by have := HSZ8.out; omega)
      obtain ⟨n8, hn8⟩ : ∃ n8, xs8.length = n8 := ⟨_, rfl⟩
      have HN8 := Lib.hid hn8
      clear hn8
      obtain ⟨AX, cX, kX, RX⟩ := HT8.out.b.look HN8.out
      have HRX := Lib.hid RX
      clear RX
      go_upto_region 31 with fail
      have HT8d := Lib.hid (HT8.out.then (up_drew w8))
      go_region_held3 (fun w' => w'.cell? ⟨p, 1, none⟩ = some (.slice AX n8 cX))
        ((first | exact HKB.out | exact HKA.out | exact kX))
        (first
          | (go_at_call 20; (with_reducible refine (slist_to HT8d.out.a HL8.out HN8.out).mono ?_); rintro e w9 ⟨A9, c9, rfl, J9, F9, U9⟩; have HT9 := Lib.hid (HT8d.out.then U9); have HJ9 := Lib.hid J9; have HR9 := Lib.hid ((HRX.out.up (up_drew w8)).up U9); have HKA := Lib.hid (U9.kept (p := ⟨p, 1, none⟩) kX); clear J9 F9 U9)
          | (go_at_call 15; (with_reducible refine (same_in HJ9.out.rd HR9.out).mono ?_); rintro e wa ⟨rfl, Ua⟩; have HTa := Lib.hid (HT9.out.then Ua); have HKB := Lib.hid (Ua.kept HKA.out); clear Ua)
          | (go_at_call 21; (with_reducible refine (slen_to HTa.out.a HN8.out).mono ?_); rintro e wb ⟨rfl, rfl⟩))
      all_goals
        clear kX
        go_wp2_with fail
        go_roundw
        case rel => exact ⟨i + 1, xs8, _, _, by go_num, by omega, HSZ8.out, HTa.out⟩
        case measure => simp [intOf]; omega
    · have HL1 := Lib.hid (show ([] : List Int).length + xs.length ≤ 8192 by simp; have := HNX.out; have := HN40.out; omega)
      have HL2 := Lib.hid (show ys.length + ([] ++ xs).length ≤ 8192 by simp; have := HNX.out; have := HN40.out; have := HYS.out; omega)
      have HL3 := Lib.hid (show ys.length + xs.length ≤ 8192 by have := HNX.out; have := HN40.out; have := HYS.out; omega)
      go_upto_region 31 with (first
        | (go_at_call 10; (with_reducible refine (number_is HKK.out (by decide) (by decide) _).mono ?_); rintro e w' ⟨rfl, rfl⟩)
        | (at_builtin; refine wpList_app (v := .slice none 0 0) rfl _ _ rfl rfl rfl (Ints.nil _) (HR0.out.up HT1.out.up) HL1.out ?_; intro v5 w5 J5 G5 A5; obtain ⟨B5, M5, k5, rfl⟩ := shapeI J5; have HJ5 := Lib.hid J5; have HU5 := Lib.hid (app_new G5 A5); clear J5 G5 A5)
        | (go_at_call 11; (with_reducible refine (sgive_any (HT1.out.a.up HU5.out.1) HJ5.out.rd HL2.out).mono ?_); rintro e w6 ⟨rfl, G6⟩; obtain ⟨F6, P6, -, E6⟩ := (HT1.out.then HU5.out.1).gaveA G6; have HT6 := Lib.hid P6; have y6 := E6.kept (p := ⟨db, 1, none⟩) (HU5.out.1.kept HY1.out) HDF.out; clear G6 P6 E6)
        | (go_at_call 12; (with_reducible refine (rsgive_any HT6.out.b (HR0.out.up HT6.out.up) HL3.out).mono ?_); rintro e w8 ⟨rfl, G8⟩; obtain ⟨G9, P8, -, -⟩ := HT6.out.gaveB G8; rw [List.nil_append] at P8; have HT8 := Lib.hid P8; clear G8 P8))
      obtain ⟨xs8, hx8⟩ : ∃ xs8, ys ++ xs = xs8 := ⟨_, rfl⟩
      have HSZ8 := Lib.hid (show xs8.length ≤ 40 * (i + 1) by rw [← hx8, List.length_append]; have := HNX.out; have := HN40.out; have := HYL.out; omega)
      rw [hx8] at HT8
      clear hx8 y0 y1 y6
      have HL8 := Lib.hid (show xs8.length ≤ 8192 by have := HSZ8.out; omega)
      obtain ⟨n8, hn8⟩ : ∃ n8, xs8.length = n8 := ⟨_, rfl⟩
      have HN8 := Lib.hid hn8
      clear hn8
      obtain ⟨AX, cX, kX, RX⟩ := HT8.out.b.look HN8.out
      have HRX := Lib.hid RX
      clear RX
      go_upto_region 31 with fail
      have HT8d := Lib.hid (HT8.out.then (up_drew w8))
      go_region_held3 (fun w' => w'.cell? ⟨p, 1, none⟩ = some (.slice AX n8 cX))
        ((first | exact HKB.out | exact HKA.out | exact kX))
        (first
          | (go_at_call 20; (with_reducible refine (slist_to HT8d.out.a HL8.out HN8.out).mono ?_); rintro e w9 ⟨A9, c9, rfl, J9, F9, U9⟩; have HT9 := Lib.hid (HT8d.out.then U9); have HJ9 := Lib.hid J9; have HR9 := Lib.hid ((HRX.out.up (up_drew w8)).up U9); have HKA := Lib.hid (U9.kept (p := ⟨p, 1, none⟩) kX); clear J9 F9 U9)
          | (go_at_call 15; (with_reducible refine (same_in HJ9.out.rd HR9.out).mono ?_); rintro e wa ⟨rfl, Ua⟩; have HTa := Lib.hid (HT9.out.then Ua); have HKB := Lib.hid (Ua.kept HKA.out); clear Ua)
          | (go_at_call 21; (with_reducible refine (slen_to HTa.out.a HN8.out).mono ?_); rintro e wb ⟨rfl, rfl⟩))
      all_goals
        clear kX
        go_wp2_with fail
        go_roundw
        case rel => exact ⟨i + 1, xs8, _, _, by go_num, by omega, HSZ8.out, HTa.out⟩
        case measure => simp [intOf]; omega
    · rcases List.eq_nil_or_concat ys with hnil | ⟨xs8, y, hcat⟩
      · subst hnil
        have HSZ8 := Lib.hid (show ([] : List Int).length ≤ 40 * (i + 1) by simp)
        go_upto_region 31 with (first
          | (go_at_call 10; (with_reducible refine (number_is HKK.out (by decide) (by decide) _).mono ?_); rintro e w' ⟨rfl, rfl⟩)
          | (go_at_call 13; (with_reducible refine (stake_none HT1.out.a).mono ?_); rintro e w6 ⟨rfl, rfl⟩)
          | (go_at_call 14; (with_reducible refine (rstake_none HT1.out.b).mono ?_); rintro e w7 ⟨rfl, rfl⟩))
        have HT8 := HT1
        obtain ⟨w8, hw8⟩ : ∃ w8, w8 = w1 := ⟨_, rfl⟩
        rw [← hw8] at HT8 ⊢
        clear hw8 y0 y1
        have HL8 := Lib.hid (show ([] : List Int).length ≤ 8192 by have := HSZ8.out; omega)
        obtain ⟨n8, hn8⟩ : ∃ n8, ([] : List Int).length = n8 := ⟨_, rfl⟩
        have HN8 := Lib.hid hn8
        clear hn8
        obtain ⟨AX, cX, kX, RX⟩ := HT8.out.b.look HN8.out
        have HRX := Lib.hid RX
        clear RX
        go_upto_region 31 with fail
        have HT8d := Lib.hid (HT8.out.then (up_drew w8))
        go_region_held3 (fun w' => w'.cell? ⟨p, 1, none⟩ = some (.slice AX n8 cX))
          ((first | exact HKB.out | exact HKA.out | exact kX))
          (first
            | (go_at_call 20; (with_reducible refine (slist_to HT8d.out.a HL8.out HN8.out).mono ?_); rintro e w9 ⟨A9, c9, rfl, J9, F9, U9⟩; have HT9 := Lib.hid (HT8d.out.then U9); have HJ9 := Lib.hid J9; have HR9 := Lib.hid ((HRX.out.up (up_drew w8)).up U9); have HKA := Lib.hid (U9.kept (p := ⟨p, 1, none⟩) kX); clear J9 F9 U9)
            | (go_at_call 15; (with_reducible refine (same_in HJ9.out.rd HR9.out).mono ?_); rintro e wa ⟨rfl, Ua⟩; have HTa := Lib.hid (HT9.out.then Ua); have HKB := Lib.hid (Ua.kept HKA.out); clear Ua)
            | (go_at_call 21; (with_reducible refine (slen_to HTa.out.a HN8.out).mono ?_); rintro e wb ⟨rfl, rfl⟩))
        all_goals
          clear kX
          go_wp2_with fail
          go_roundw
          case rel => exact ⟨i + 1, ([] : List Int), _, _, by go_num, by omega, HSZ8.out, HTa.out⟩
          case measure => simp [intOf]; omega
      · rw [List.concat_eq_append] at hcat
        have HCAT := Lib.hid hcat
        clear hcat
        have HLZ := Lib.hid (show xs8.length ≤ 8000 by have := HYS.out; rw [HCAT.out] at this; simp at this; omega)
        have HSZ8 := Lib.hid (show xs8.length ≤ 40 * (i + 1) by have := HYL.out; rw [HCAT.out] at this; simp at this; omega)
        go_upto_region 31 with (first
          | (go_at_call 10; (with_reducible refine (number_is HKK.out (by decide) (by decide) _).mono ?_); rintro e w' ⟨rfl, rfl⟩)
          | (go_at_call 13; (with_reducible refine (stake_to HT1.out.a HCAT.out).mono ?_); rintro e w6 ⟨rfl, G6⟩; obtain ⟨F6, P6, -, -⟩ := HT1.out.gaveA G6; have HT6 := Lib.hid P6; clear G6 P6)
          | (go_at_call 14; (with_reducible refine (rstake_to HT6.out.b HCAT.out HLZ.out).mono ?_); rintro e w8 ⟨rfl, G8⟩; obtain ⟨G9, P8, -, -⟩ := HT6.out.gaveB G8; have HT8 := Lib.hid P8; clear G8 P8))
        clear y0 y1
        have HL8 := Lib.hid (show xs8.length ≤ 8192 by have := HSZ8.out; omega)
        obtain ⟨n8, hn8⟩ : ∃ n8, xs8.length = n8 := ⟨_, rfl⟩
        have HN8 := Lib.hid hn8
        clear hn8
        obtain ⟨AX, cX, kX, RX⟩ := HT8.out.b.look HN8.out
        have HRX := Lib.hid RX
        clear RX
        go_upto_region 31 with fail
        have HT8d := Lib.hid (HT8.out.then (up_drew w8))
        go_region_held3 (fun w' => w'.cell? ⟨p, 1, none⟩ = some (.slice AX n8 cX))
          ((first | exact HKB.out | exact HKA.out | exact kX))
          (first
            | (go_at_call 20; (with_reducible refine (slist_to HT8d.out.a HL8.out HN8.out).mono ?_); rintro e w9 ⟨A9, c9, rfl, J9, F9, U9⟩; have HT9 := Lib.hid (HT8d.out.then U9); have HJ9 := Lib.hid J9; have HR9 := Lib.hid ((HRX.out.up (up_drew w8)).up U9); have HKA := Lib.hid (U9.kept (p := ⟨p, 1, none⟩) kX); clear J9 F9 U9)
            | (go_at_call 15; (with_reducible refine (same_in HJ9.out.rd HR9.out).mono ?_); rintro e wa ⟨rfl, Ua⟩; have HTa := Lib.hid (HT9.out.then Ua); have HKB := Lib.hid (Ua.kept HKA.out); clear Ua)
            | (go_at_call 21; (with_reducible refine (slen_to HTa.out.a HN8.out).mono ?_); rintro e wb ⟨rfl, rfl⟩))
        all_goals
          clear kX
          go_wp2_with fail
          go_roundw
          case rel => exact ⟨i + 1, xs8, _, _, by go_num, by omega, HSZ8.out, HTa.out⟩
          case measure => simp [intOf]; omega
    · have HL1 := Lib.hid (show ys.length ≤ 8000 by have := HYS.out; omega)
      obtain ⟨K, hK⟩ : ∃ K, ((ys.length : Int) - m).toNat = K := ⟨_, rfl⟩
      obtain ⟨xs8, hx8⟩ : ∃ xs8, ys.drop K = xs8 := ⟨_, rfl⟩
      obtain ⟨us, hus⟩ : ∃ us, ys.take K = us := ⟨_, rfl⟩
      have HK := Lib.hid hK
      have HX8 := Lib.hid hx8
      have HUS := Lib.hid hus
      have HSZ8 := Lib.hid (show xs8.length ≤ 40 * (i + 1) by rw [← hx8, List.length_drop]; have := HYL.out; omega)
      clear hK hx8 hus
      go_upto_region 31 with (first
        | (go_at_call 10; (with_reducible refine (number_is HKK.out (by decide) (by decide) _).mono ?_); rintro e w' ⟨rfl, rfl⟩)
        | (go_at_call 16; (with_reducible refine (sover_all HT1.out.a HK.out HMB.out HL1.out HX8.out HUS.out).mono ?_); rintro e w5 ⟨A5, c5, rfl, T5⟩; obtain ⟨F5, P5, R5, -, A5', -⟩ := HT1.out.tookA T5; have HT5 := Lib.hid P5; have HR5 := Lib.hid R5; have HA5 := Lib.hid A5'; clear T5 P5 R5 A5')
        | (go_at_call 17; (with_reducible refine (rsover_all HT5.out.b HK.out HMB.out HL1.out HX8.out HUS.out).mono ?_); rintro e w6 ⟨A6, c6, rfl, T6⟩; obtain ⟨F6, P6, R6, -, -, -, -, E6⟩ := HT5.out.tookB T6; have HT6 := Lib.hid P6; have HR6 := Lib.hid R6; have HR56 := Lib.hid (HR5.out.else E6 HA5.out); clear T6 P6 R6 E6)
        | (go_at_call 15; (with_reducible refine (same_in HR56.out HR6.out).mono ?_); rintro e w8 ⟨rfl, U8⟩; have HT8 := Lib.hid (HT6.out.then U8); clear U8))
      clear y0 y1
      have HL8 := Lib.hid (show xs8.length ≤ 8192 by have := HSZ8.out; omega)
      obtain ⟨n8, hn8⟩ : ∃ n8, xs8.length = n8 := ⟨_, rfl⟩
      have HN8 := Lib.hid hn8
      clear hn8
      obtain ⟨AX, cX, kX, RX⟩ := HT8.out.b.look HN8.out
      have HRX := Lib.hid RX
      clear RX
      go_upto_region 31 with fail
      have HT8d := Lib.hid (HT8.out.then (up_drew w8))
      go_region_held3 (fun w' => w'.cell? ⟨p, 1, none⟩ = some (.slice AX n8 cX))
        ((first | exact HKB.out | exact HKA.out | exact kX))
        (first
          | (go_at_call 20; (with_reducible refine (slist_to HT8d.out.a HL8.out HN8.out).mono ?_); rintro e w9 ⟨A9, c9, rfl, J9, F9, U9⟩; have HT9 := Lib.hid (HT8d.out.then U9); have HJ9 := Lib.hid J9; have HR9 := Lib.hid ((HRX.out.up (up_drew w8)).up U9); have HKA := Lib.hid (U9.kept (p := ⟨p, 1, none⟩) kX); clear J9 F9 U9)
          | (go_at_call 15; (with_reducible refine (same_in HJ9.out.rd HR9.out).mono ?_); rintro e wa ⟨rfl, Ua⟩; have HTa := Lib.hid (HT9.out.then Ua); have HKB := Lib.hid (Ua.kept HKA.out); clear Ua)
          | (go_at_call 21; (with_reducible refine (slen_to HTa.out.a HN8.out).mono ?_); rintro e wb ⟨rfl, rfl⟩))
      all_goals
        clear kX
        go_wp2_with fail
        go_roundw
        case rel => exact ⟨i + 1, xs8, _, _, by go_num, by omega, HSZ8.out, HTa.out⟩
        case measure => simp [intOf]; omega
    · obtain ⟨n, hn⟩ : ∃ n, ys.length = n := ⟨_, rfl⟩
      have HN := Lib.hid hn
      clear hn
      have HSZ8 := Lib.hid (show ([] : List Int).length ≤ 40 * (i + 1) by simp)
      go_upto_region 31 with (first
        | (go_at_call 10; (with_reducible refine (number_is HKK.out (by decide) (by decide) _).mono ?_); rintro e w' ⟨rfl, rfl⟩)
        | (go_at_call 18; (with_reducible refine (sall_to HT1.out.a HN.out).mono ?_); rintro e w5 ⟨A5, c5, rfl, T5⟩; obtain ⟨F5, P5, R5, -, A5', -⟩ := HT1.out.tookA T5; have HT5 := Lib.hid P5; have HR5 := Lib.hid R5; have HA5 := Lib.hid A5'; clear T5 P5 R5 A5')
        | (go_at_call 19; (with_reducible refine (rsall_to HT5.out.b HN.out).mono ?_); rintro e w6 ⟨A6, c6, rfl, T6⟩; obtain ⟨F6, P6, R6, -, -, -, -, E6⟩ := HT5.out.tookB T6; have HT6 := Lib.hid P6; have HR6 := Lib.hid R6; have HR56 := Lib.hid (HR5.out.else E6 HA5.out); clear T6 P6 R6 E6)
        | (go_at_call 15; (with_reducible refine (same_in HR56.out HR6.out).mono ?_); rintro e w8 ⟨rfl, U8⟩; have HT8 := Lib.hid (HT6.out.then U8); clear U8))
      clear y0 y1
      have HL8 := Lib.hid (show ([] : List Int).length ≤ 8192 by have := HSZ8.out; omega)
      obtain ⟨n8, hn8⟩ : ∃ n8, ([] : List Int).length = n8 := ⟨_, rfl⟩
      have HN8 := Lib.hid hn8
      clear hn8
      obtain ⟨AX, cX, kX, RX⟩ := HT8.out.b.look HN8.out
      have HRX := Lib.hid RX
      clear RX
      go_upto_region 31 with fail
      have HT8d := Lib.hid (HT8.out.then (up_drew w8))
      go_region_held3 (fun w' => w'.cell? ⟨p, 1, none⟩ = some (.slice AX n8 cX))
        ((first | exact HKB.out | exact HKA.out | exact kX))
        (first
          | (go_at_call 20; (with_reducible refine (slist_to HT8d.out.a HL8.out HN8.out).mono ?_); rintro e w9 ⟨A9, c9, rfl, J9, F9, U9⟩; have HT9 := Lib.hid (HT8d.out.then U9); have HJ9 := Lib.hid J9; have HR9 := Lib.hid ((HRX.out.up (up_drew w8)).up U9); have HKA := Lib.hid (U9.kept (p := ⟨p, 1, none⟩) kX); clear J9 F9 U9)
          | (go_at_call 15; (with_reducible refine (same_in HJ9.out.rd HR9.out).mono ?_); rintro e wa ⟨rfl, Ua⟩; have HTa := Lib.hid (HT9.out.then Ua); have HKB := Lib.hid (Ua.kept HKA.out); clear Ua)
          | (go_at_call 21; (with_reducible refine (slen_to HTa.out.a HN8.out).mono ?_); rintro e wb ⟨rfl, rfl⟩))
      all_goals
        clear kX
        go_wp2_with fail
        go_roundw
        case rel => exact ⟨i + 1, ([] : List Int), _, _, by go_num, by omega, HSZ8.out, HTa.out⟩
        case measure => simp [intOf]; omega

set_option maxRecDepth 100000 in
theorem lifted (os : Os) (started : os.Started) (H : Type) (enc : TypeId × Value → H) :
    ReturnsInHanded {} Try.checked os 3 .any (Rows.stashPlaysSpec.pre6 enc Try.prog Try.f3 Rows.stashPlaysRow.domain false) (Rows.stashPlaysSpec.post enc Try.prog Try.f3 false true false false) := by
  refine returnsInHanded_of_change (C := Try.checked) own started (by kernel_rfl) Try.func3
    (ChangeSpec.witness6 (enc := enc) (C := Try.checked) false ⟨#[], #[.int .i64 0, .slice none 0 0], []⟩ 8 (by kernel_rfl) (by kernel_rfl) (by kernel_rfl) (by kernel_rfl)) ?_
  intro W base args ds gs before hval0 hW hcnd _
  have hval : ∀ (j : Nat) t v, Try.f3.params[j]? = some t → args[j]? = some v → Value.okWide Try.prog W .any base t v := hval0
  have hW' := hW
  obtain ⟨p, q, hA0, hV, rfl, hfz, hnd⟩ := hW
  have hA : DataW.TrodAll enc Try.prog W 0 (fun _ => true) true Try.f3.params.toList args.toList ds p := hA0
  rw [Try.params3] at hA hval
  obtain ⟨v0, vs0, d0, ds0, p0, q0, hargs, rfl, rfl, h0, r0⟩ := trodAll_cons hA
  obtain ⟨v1, vs1, d1, ds1, p1, q1, rfl, rfl, rfl, h1, r1⟩ := trodAll_cons r0
  obtain ⟨rfl, rfl, rfl⟩ := trodAll_nil r1
  obtain rfl : args = #[v0, v1] := by cases args; simp_all
  obtain ⟨rfl, rfl⟩ := trodVars_none hV
  have k0 := h0
  have lt0 : ∀ x ∈ p0, x.block < W.heap.size := by obtain ⟨m, hm⟩ := k0; exact DataW.trod_lt m _ _ _ hm
  obtain ⟨a0, rfl, rfl, rfl, w0⟩ := open_int Try.underlying3 (hval 0 3 v0 rfl rfl) h0
  have k1 := h1
  have lt1 : ∀ x ∈ p1, x.block < W.heap.size := by obtain ⟨m, hm⟩ := k1; exact DataW.trod_lt m _ _ _ hm
  obtain ⟨a1, len1, cap1, z1, rfl, w1⟩ := open_recs (ks := [.i .i64, .s]) Try.underlying22 Try.underlying30 (by kernel_rfl) (by kernel_rfl) rfl
    (fun j f k hf hk => match j, hf, hk with
      | 0, hf, hk => by simp at hf hk; subst hf hk; exact Try.underlying3
      | 1, hf, hk => by simp at hf hk; subst hf hk; exact ⟨3, Try.underlying28, Try.underlying3, by kernel_rfl⟩
      | n + 2, hf, hk => by simp at hk) (hval 1 22 v1 rfl rfl) h1
  clear hA0 hval0
  refine (walk a0 a1 len1 cap1 z1 W w0 w1).mono fun e W' ⟨he, bel⟩ => ?_
  subst he
  exact ⟨_, rfl, _, _, _, [], _, [], hW', trodAll_mk1 (shut_bool Try.underlying4 _), (trodAll_cons_mk (Below.trod laidOut (by kernel_rfl) (of_decide_eq_true (by kernel_rfl)) k0 bel lt0) (trodAll_cons_mk (Below.trod laidOut (by kernel_rfl) (of_decide_eq_true (by kernel_rfl)) k1 bel lt1) trodAll_mk0)), rfl, Below.frame bel _, fun h => by cases h⟩

theorem over : Rows.stashPlaysRow.holds Try.pinned (OpenSpec.ofChange Rows.stashPlaysSpec) :=
  OpenClaim.holds_of_wide 3 Try.f3 rfl rfl rfl rfl rfl rfl rfl ⟨rfl, rfl, rfl, rfl, rfl⟩ rfl rfl rfl rfl rfl (by kernel_rfl) Try.func3 (by kernel_rfl)
    (of_decide_eq_true (by kernel_rfl)) (by unfold Func.isWrapper; first | (rw [if_pos (by decide +kernel)]; kernel_rfl) | (rw [if_neg (by decide +kernel)]; exact ⟨rfl, rfl⟩))
    (fun os started H enc _ => lifted os started H enc)

/-- THE STATEMENT -/
theorem proved : Rows.StashPlaysSaid := over
#print axioms proved
end Go.Proofs.Ythmaibbminnplaa.stashPlays
