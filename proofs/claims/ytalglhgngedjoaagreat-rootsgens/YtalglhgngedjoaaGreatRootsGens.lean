/-
  RootsGens of layer 11: one alone: slots come from the top; each time a slot comes it has a generation more; when all are used there is none; a region lives till it is ended, and no longer; for all numbers and every row of numbers.
-/
import Derived.Test.YtalglhgngedjoaaGreatPart27
import Derived.Test.YtalglhgngedjoaaGreatRows
import Derived.WalkKit
import Derived.ProofKit
import Derived.OpenShut
import Derived.ShutString
import Derived.ChangeOld
import Derived.Below
import Derived.Carry
import Derived.Lib.SmallJoins
namespace Go.Proofs.YtalglhgngedjoaaGreat.rootsGens
open Go.ChangeShapes Go.WideShapes Go.ChangeAt Go.RowKit Go.Joins Go.Proofs.YtalglhgngedjoaaGreat W64
open Go.ChangeMaps (open_string shut_string)
set_option linter.unusedVariables false

theorem own : ownKnob Tryz.prog.godebug = none := by kernel_rfl
theorem laidOut : laidOutB Tryz.prog = true := by kernel_rfl


set_option maxHeartbeats 8000000 in
set_option maxRecDepth 100000 in
theorem walk (a0 : Int) (a1 : Option Addr) (len1 cap1 : Nat) (z1 : List Int) (w : World) (w0 : (Lit.int .i64 a0).wf = true) (w1 : IsRow .i64 w a1 len1 cap1 z1) :
    Calls Tryz.prog 4 #[.int .i64 a0, .slice a1 len1 cap1] w fun e w' => e = .returned (.bool true) ∧ Up w w' := by
  have HW1 := Lib.hid w1
  have hm := row_len w1
  unfold maxLen at hm
  clear w0 w1
  by_cases hlen : len1 ≤ 60
  rotate_left
  · have hl2 : (60 : Int) < (len1 : Int) := by omega
    go_enter Tryz.func4, Tryz.ntmps4
    go_wp2_with (go_at_call 6; refine (first11 _).mono ?_; rintro r wA ⟨rfl, UA⟩)
    go_ret
    exact ⟨rfl, UA⟩
  have hl2 : ¬ (60 : Int) < (len1 : Int) := by omega
  obtain ⟨y, hy, _, y0, y1⟩ := emod_letter a0 4 (by decide)
  obtain ⟨n, hn⟩ : ∃ n : Nat, 1 + y = (n : Int) := ⟨(1 + y).toNat, by omega⟩
  have n1 : 1 ≤ n := by omega
  have n4 : n ≤ 4 := by omega
  have HY := Lib.hid hy
  have HN := Lib.hid hn
  clear hy hn
  go_enter Tryz.func4, Tryz.ntmps4
  go_wp2_with (first
    | (go_at_call 6; refine (first11 _).mono ?_; rintro r wA ⟨rfl, UA⟩; have HUA := Lib.hid UA; clear UA)
    | (go_at_call 8; (with_reducible refine (number_is HY.out (by decide) (by decide) _).mono ?_); rintro r w' ⟨rfl, rfl⟩)
    | (go_at_call 7; refine (made_to HN.out n1 n4 _).mono ?_; rintro r w1 ⟨l, rfl, T1⟩; have HG0 := Lib.hid (gens_start (show Sole wA w1 l n (m0 n) from T1.sole) n1 n4); clear T1))
  rw [HN.out]
  obtain ⟨bG, hbG⟩ : ∃ b, w1.heap.size = b := ⟨_, rfl⟩
  obtain ⟨bL, hbL⟩ : ∃ b, bG + 1 = b := ⟨_, rfl⟩
  rw [hbG, hbL] at HG0
  rw [hbG, hbL]
  clear hbG hbL
  generalize (w1.alloc (.cells #[.int .i64 0, .int .i64 0, .int .i64 0, .int .i64 0] 62)).alloc (.cells #[.bool false, .bool false, .bool false, .bool false] 63) = w2 at *
  have HR0 := Lib.hid (show GensRel wA l n bG bL len1 (.int .i64 0) (.int .i64 ((0 : Nat) : Int)) w2 from ⟨0, 0, List.range n, fun _ => 0, fun _ => false, m0 n, Nat.zero_le _, rfl, rfl, by simp, HG0.out⟩)
  clear HG0
  go_loopw [12, 13] (fun u i wr => GensRel wA l n bG bL len1 u i wr) (fun _ i _ => len1 - (intOf i).toNat)
  case atStart => exact HR0.out
  case round =>
    obtain ⟨j, us, S, gen, live, s, hj, rfl, rfl, hus, G⟩ := hrel
    have HG := Lib.hid G
    have hle := G.gs.len_le
    clear G HR0
    have j0 : (0 : Int) ≤ (j : Int) := Int.natCast_nonneg _
    have us0 : 0 ≤ us := by omega
    have us4 : us ≤ 4 := by omega
    by_cases hlt : j < len1
    · have j1 : (j : Int) < (len1 : Int) := by omega
      obtain ⟨bl, off, rfl, hb, hc⟩ := row_cell HW1.out hlt
      have hwf := row_wf HW1.out hlt
      replace hc := (HUA.out.trans HG.out.sole.up).kept hc
      obtain ⟨z, hz⟩ : ∃ z, z1.getD j 0 = z := ⟨_, rfl⟩
      rw [hz] at hc hwf
      clear hz
      obtain ⟨q1, q2⟩ := quo2 hwf
      clear hwf
      obtain ⟨x', hx', _, x0, x1⟩ := emod_letter (z.tdiv 2) (n : Int) (by omega)
      obtain ⟨x, rfl⟩ : ∃ x : Nat, x' = x := ⟨x'.toNat, by omega⟩
      obtain ⟨bit, hbit, _, _, _⟩ := emod_letter z 2 (by decide)
      have HX := Lib.hid hx'
      have HBI := Lib.hid hbit
      have hk0 := Lib.hid (show (0 : Int) < (n : Int) by omega)
      have hk1 := Lib.hid (show (n : Int) < 9223372036854775808 by omega)
      have hT := Lib.hid (show j + 1 ≤ 100 by omega)
      have hxn := Lib.hid (show x < n ∧ x < 4 by omega)
      have x3 : (x : Int) < 4 := by omega
      have xt : ((x : Int)).toNat = x := by omega
      clear hx' hbit
      by_cases hbz : bit = 0
      · subst hbz
        rcases S with _ | ⟨a, r⟩
        · obtain rfl : us = (n : Int) := by simp at hus; omega
          have HUS := Lib.hid hus
          have e0 : (n : Int) - (n : Int) = 0 := by omega
          clear hus hle us4 us0
          go_wp2_with (first
            | (go_at_call 8; (with_reducible refine (number_is HX.out hk0.out hk1.out _).mono ?_); rintro r w' ⟨rfl, rfl⟩)
            | (go_at_call 8; (with_reducible refine (number_is HBI.out (by decide) (by decide) _).mono ?_); rintro r w' ⟨rfl, rfl⟩)
            | (go_at_call 12; refine (HG.out.spare).mono ?_; rintro r w3 ⟨v, rfl, J3, U3⟩; obtain ⟨A3, c3, rfl⟩ : ∃ A c, v = .slice A 0 c := (by obtain ⟨A, c, e⟩ := J3.slice; exact ⟨A, c, e⟩); have HG3 := Lib.hid (HG.out.ups U3); clear J3 U3)
            | (go_at_call 14; refine (HG3.out.noSlot hT.out (j : Int)).mono ?_; rintro r w4 ⟨rfl, O4⟩; have HO4 := Lib.hid O4; clear O4))
          go_roundw
          case rel =>
            obtain ⟨s4, G4⟩ := HO4.out
            exact ⟨j + 1, (n : Int), [], gen, live, s4, by omega, by go_num, rfl, HUS.out, G4⟩
          case measure => simp [intOf]; omega
        · obtain ⟨m, hm⟩ : ∃ m : Nat, r.length + 1 = m := ⟨_, rfl⟩
          have hu1 : us < (n : Int) := by simp at hus; omega
          have hm0 : (n : Int) - us = (m : Int) := by simp at hus; omega
          have HUS := Lib.hid hus
          have HM := Lib.hid hm
          have ha := HG.out.gs.mem a (by simp)
          have hla := (HG.out.gs.all a ha).1 (by simp)
          have hgb := HG.out.gs.gb a ha
          obtain ⟨gg, hgg⟩ : ∃ gg, gen a = gg := ⟨_, rfl⟩
          rw [hgg] at hgb
          obtain ⟨gb0, gb1⟩ := hgb
          have HGG := Lib.hid hgg
          have HLA := Lib.hid hla
          have HAN := Lib.hid (show a < n ∧ a < 4 by omega)
          have a0' : (0 : Int) ≤ (a : Int) := Int.natCast_nonneg _
          have a3 : (a : Int) < 4 := by omega
          have at_ : ((a : Int)).toNat = a := by omega
          have hgw : gg ≤ 100 := by omega
          clear hus hle ha hla hgg hm gb1
          by_cases hj3 : j ≤ 3
          · have c3' : (j : Int) ≤ 3 := by omega
            have HC := Lib.hid (show cutC (j : Int) = (j : Int) by unfold cutC; rw [if_neg (by omega), if_neg (by omega)])
            go_upto_region 23 with (first
              | (go_at_call 8; (with_reducible refine (number_is HX.out hk0.out hk1.out _).mono ?_); rintro r w' ⟨rfl, rfl⟩)
              | (go_at_call 8; (with_reducible refine (number_is HBI.out (by decide) (by decide) _).mono ?_); rintro r w' ⟨rfl, rfl⟩)
              | (go_at_call 12; refine (HG.out.spare).mono ?_; rintro rr w3 ⟨v, rfl, J3, U3⟩; obtain ⟨g3, c3, rfl, d3⟩ := J3.get (by simp); replace d3 := d3 0 (by simp); rw [show (a :: r).length = m from HM.out]; have HD3 := Lib.hid (show w3.cell? ⟨g3, 0, none⟩ = some (.int .i64 (a : Int)) from d3); have HNB := Lib.hid (show g3 ∉ [l.p, l.g] by have h1 := J3.nb (HG.out.ups U3).sole.roo.env.mem.top (by decide); have h2 := J3.nb (HG.out.ups U3).sole.roo.env.mem.row (by decide); simp [Value.ownBlock] at h1 h2; simp [h1, h2]); have HG3 := Lib.hid (HG.out.ups U3); clear J3 U3 d3)
              | (go_at_call 14; refine (HG3.out.take hT.out HC.out (show gen a + 1 = gg + 1 by rw [HGG.out])).mono ?_; rintro rr w4 ⟨rfl, s4, O4⟩; have HO4 := Lib.hid O4; have HD4 := Lib.hid (O4.el.kept (p := ⟨g3, 0, none⟩) HD3.out HNB.out); clear O4))
            clear hc
            have d4 := HD4.out
            obtain ⟨k1, k2⟩ := HO4.out.g.cells HAN.out.2 HGG.out HLA.out
            have g2 := run_gfield2
            have g1 := run_gfield1
            go_upto_region 25 with (first
              | (go_at_call 15; (with_reducible refine (HO4.out.root HAN.out.1).mono ?_); rintro rr w5 ⟨rfl, U5⟩; replace HO4 := Lib.hid (HO4.out.ups U5); clear U5))
            clear k1 k2 d4
            obtain ⟨k1, k2⟩ := HO4.out.g.cells HAN.out.2 HGG.out HLA.out
            have f1 := HO4.out.g.tg.frozen a
            have f2 := HO4.out.g.tl.frozen a
            have HNE := Lib.hid (HO4.out.g.tg.ne_type HO4.out.g.tl (by decide))
            have hne1 : ¬ bG = bL := HNE.out
            have hne2 : ¬ bL = bG := fun h => HNE.out h.symm
            go_wp2_with fail
            go_roundw
            case rel => exact ⟨j + 1, us + 1, r, _, _, s4, by omega, by go_num, by go_num, by have := HUS.out; simp at this; omega, HO4.out.g.both HAN.out.2⟩
            case measure => simp [intOf]; omega
          · have c3' : ¬ (j : Int) ≤ 3 := by omega
            have HC := Lib.hid (show cutC (j : Int) = 3 by unfold cutC; rw [if_neg (by omega), if_pos (by omega)])
            go_upto_region 23 with (first
              | (go_at_call 8; (with_reducible refine (number_is HX.out hk0.out hk1.out _).mono ?_); rintro r w' ⟨rfl, rfl⟩)
              | (go_at_call 8; (with_reducible refine (number_is HBI.out (by decide) (by decide) _).mono ?_); rintro r w' ⟨rfl, rfl⟩)
              | (go_at_call 12; refine (HG.out.spare).mono ?_; rintro rr w3 ⟨v, rfl, J3, U3⟩; obtain ⟨g3, c3, rfl, d3⟩ := J3.get (by simp); replace d3 := d3 0 (by simp); rw [show (a :: r).length = m from HM.out]; have HD3 := Lib.hid (show w3.cell? ⟨g3, 0, none⟩ = some (.int .i64 (a : Int)) from d3); have HNB := Lib.hid (show g3 ∉ [l.p, l.g] by have h1 := J3.nb (HG.out.ups U3).sole.roo.env.mem.top (by decide); have h2 := J3.nb (HG.out.ups U3).sole.roo.env.mem.row (by decide); simp [Value.ownBlock] at h1 h2; simp [h1, h2]); have HG3 := Lib.hid (HG.out.ups U3); clear J3 U3 d3)
              | (go_at_call 14; refine (HG3.out.take hT.out HC.out (show gen a + 1 = gg + 1 by rw [HGG.out])).mono ?_; rintro rr w4 ⟨rfl, s4, O4⟩; have HO4 := Lib.hid O4; have HD4 := Lib.hid (O4.el.kept (p := ⟨g3, 0, none⟩) HD3.out HNB.out); clear O4))
            clear hc
            have d4 := HD4.out
            obtain ⟨k1, k2⟩ := HO4.out.g.cells HAN.out.2 HGG.out HLA.out
            have g2 := run_gfield2
            have g1 := run_gfield1
            go_upto_region 25 with (first
              | (go_at_call 15; (with_reducible refine (HO4.out.root HAN.out.1).mono ?_); rintro rr w5 ⟨rfl, U5⟩; replace HO4 := Lib.hid (HO4.out.ups U5); clear U5))
            clear k1 k2 d4
            obtain ⟨k1, k2⟩ := HO4.out.g.cells HAN.out.2 HGG.out HLA.out
            have f1 := HO4.out.g.tg.frozen a
            have f2 := HO4.out.g.tl.frozen a
            have HNE := Lib.hid (HO4.out.g.tg.ne_type HO4.out.g.tl (by decide))
            have hne1 : ¬ bG = bL := HNE.out
            have hne2 : ¬ bL = bG := fun h => HNE.out h.symm
            go_wp2_with fail
            go_roundw
            case rel => exact ⟨j + 1, us + 1, r, _, _, s4, by omega, by go_num, by go_num, by have := HUS.out; simp at this; omega, HO4.out.g.both HAN.out.2⟩
            case measure => simp [intOf]; omega
      · have hbz' : (bit == 0) = false := by simpa using hbz
        obtain ⟨gg, hgg⟩ : ∃ gg, gen x = gg := ⟨_, rfl⟩
        have HGG := Lib.hid hgg
        have HUS := Lib.hid hus
        cases hlx : live x
        · have HLX := Lib.hid hlx
          obtain ⟨k1, k2⟩ := HG.out.cells hxn.out.2 hgg hlx
          have HCK := Lib.hid (show wr.drew.cell? ⟨bG, x, none⟩ = some (.int .i64 gg) ∧ wr.drew.cell? ⟨bL, x, none⟩ = some (.bool false) from ⟨k1, k2⟩)
          clear hgg hlx hus hle k1 k2
          go_upto_region 27 with (first
            | (go_at_call 8; (with_reducible refine (number_is HX.out hk0.out hk1.out _).mono ?_); rintro r w' ⟨rfl, rfl⟩)
            | (go_at_call 8; (with_reducible refine (number_is HBI.out (by decide) (by decide) _).mono ?_); rintro r w' ⟨rfl, rfl⟩))
          clear hc
          go_region_held3 (fun w' => w'.cell? ⟨bG, x, none⟩ = some (.int .i64 gg) ∧ w'.cell? ⟨bL, x, none⟩ = some (.bool false))
            ((first | with_reducible exact HC5.out | with_reducible exact HCK.out))
            (first
              | (go_at_call 16; (with_reducible refine ((HG.out.ups (up_drew _)).stale hT.out hxn.out.1 HLX.out HGG.out).mono ?_); rintro r w5 ⟨rfl, O5⟩; have HO5 := Lib.hid O5; have HC5 := Lib.hid (show w5.cell? ⟨bG, x, none⟩ = some (.int .i64 gg) ∧ w5.cell? ⟨bL, x, none⟩ = some (.bool false) from (by obtain ⟨s5, G5⟩ := O5; exact G5.cells hxn.out.2 HGG.out HLX.out)); clear O5))
          obtain ⟨k1, k2⟩ := HC5.out
          go_wp2_with fail
          go_roundw
          case rel =>
            obtain ⟨s5, G5⟩ := HO5.out
            exact ⟨j + 1, us, S, gen, live, s5, by omega, by go_num, rfl, HUS.out, G5⟩
          case measure => simp [intOf]; omega
        · have HLX := Lib.hid hlx
          have hus1 : 1 ≤ us := by
            have h1 : x ∉ S := fun h => by have := (HG.out.gs.all x hxn.out.1).1 h; rw [hlx] at this; cases this
            have h2 : (x :: S).length ≤ n := by
              have h := List.Nodup.length_le_of_subset (List.nodup_cons.2 ⟨h1, HG.out.gs.nd⟩) (l₂ := List.range n) (fun y hy => by
                simp at hy
                rcases hy with rfl | hy
                · exact List.mem_range.2 hxn.out.1
                · exact List.mem_range.2 (HG.out.gs.mem y hy))
              simpa using h
            simp at h2; omega
          obtain ⟨k1, k2⟩ := HG.out.cells hxn.out.2 hgg hlx
          have HCK := Lib.hid (show wr.drew.cell? ⟨bG, x, none⟩ = some (.int .i64 gg) ∧ wr.drew.cell? ⟨bL, x, none⟩ = some (.bool true) from ⟨k1, k2⟩)
          clear hgg hlx hus hle k1 k2
          go_upto_region 27 with (first
            | (go_at_call 8; (with_reducible refine (number_is HX.out hk0.out hk1.out _).mono ?_); rintro r w' ⟨rfl, rfl⟩)
            | (go_at_call 8; (with_reducible refine (number_is HBI.out (by decide) (by decide) _).mono ?_); rintro r w' ⟨rfl, rfl⟩))
          clear hc
          go_region_held3 (fun w' => w'.cell? ⟨bG, x, none⟩ = some (.int .i64 gg) ∧ w'.cell? ⟨bL, x, none⟩ = some (.bool true))
            ((first | with_reducible exact HC5.out | with_reducible exact HCK.out))
            (first
              | (go_at_call 16; (with_reducible refine ((HG.out.ups (up_drew _)).fin hT.out hxn.out.1 HLX.out HGG.out).mono ?_); rintro r w5 ⟨rfl, O5⟩; have HO5 := Lib.hid O5; have HC5 := Lib.hid (show w5.cell? ⟨bG, x, none⟩ = some (.int .i64 gg) ∧ w5.cell? ⟨bL, x, none⟩ = some (.bool true) from (by obtain ⟨s5, G5⟩ := O5; exact G5.cells hxn.out.2 HGG.out HLX.out)); clear O5))
          obtain ⟨k1, k2⟩ := HC5.out
          obtain ⟨s5, G5⟩ := HO5.out
          have HG5 := Lib.hid G5
          have f2 := G5.tl.frozen x
          clear G5
          go_wp2_with fail
          go_roundw
          case rel => exact ⟨j + 1, us - 1, x :: S, gen, updA live x false, s5, by omega, by go_num, by go_num, by have := HUS.out; simp; omega, HG5.out.off hxn.out.2⟩
          case measure => simp [intOf]; omega
    · have j1 : ¬ (j : Int) < (len1 : Int) := by omega
      clear hus hle
      go_wp2_with fail
      go_loopw [19] (fun i wr => GensRel2 wA l n bG bL S gen live j i wr) (fun i _ => n - (intOf i).toNat)
      case atStart => exact ⟨0, s, Nat.zero_le _, rfl, HG.out⟩
      case round =>
        obtain ⟨x, s2, hx, rfl, G2⟩ := hrel
        have HG2 := Lib.hid G2
        clear G2
        have x0 : (0 : Int) ≤ (x : Int) := Int.natCast_nonneg _
        by_cases hlt2 : x < n
        · have x1 : (x : Int) < (n : Int) := by omega
          have x3 : (x : Int) < 4 := by omega
          have xt : ((x : Int)).toNat = x := by omega
          have HXN := Lib.hid (show x < n ∧ x < 4 by omega)
          obtain ⟨gg, hgg⟩ : ∃ gg, gen x = gg := ⟨_, rfl⟩
          obtain ⟨lv, hlv⟩ : ∃ lv, live x = lv := ⟨_, rfl⟩
          obtain ⟨cd, hcd⟩ : ∃ cd : Int, (if live x = true then 0 else 3) = cd := ⟨_, rfl⟩
          have HGG := Lib.hid hgg
          have HLV := Lib.hid hlv
          have HCD := Lib.hid hcd
          obtain ⟨k1, k2⟩ := HG2.out.cells HXN.out.2 hgg hlv
          rw [hlv] at hcd
          clear k2 hgg hlv
          go_upto_region 36 with (first
            | (go_at_call 17; (with_reducible refine (HG2.out.lookNew HXN.out.1 HGG.out).mono ?_); rintro r w6 ⟨b6, rfl, K6⟩; have HK6 := Lib.hid K6; clear K6))
          clear k1
          have HC6 := Lib.hid (show w6.drew.cell? ⟨bL, x, none⟩ = some (.bool lv) from (HK6.out.g.cells HXN.out.2 HGG.out HLV.out).2)
          cases lv
          · rw [if_neg (by decide)] at hcd
            subst hcd
            go_region_held3 (fun w' => w'.cell? ⟨bL, x, none⟩ = some (.bool false))
              ((first | with_reducible exact HC7.out | with_reducible exact HC6.out))
              (first
                | (go_at_call 18; (with_reducible refine ((HK6.out.ups (up_drew _)).step HXN.out.1 HGG.out HCD.out).mono ?_); rintro r w7 ⟨rfl, s7, K7, f7, c7, M7, G7⟩; have HF7 := Lib.hid f7; have HCC := Lib.hid c7; have HM7 := Lib.hid M7; have HG7 := Lib.hid G7; have HC7 := Lib.hid (show w7.cell? ⟨bL, x, none⟩ = some (.bool false) from (G7.cells HXN.out.2 HGG.out HLV.out).2); clear f7 c7 M7 G7)
                | (go_at_call 19; (with_reducible refine (lkDone HM7.out HF7.out).mono ?_); rintro r w' ⟨rfl, rfl⟩)
                | (go_at_call 20; (with_reducible refine (lkCode HM7.out HCC.out).mono ?_); rintro r w' ⟨rfl, rfl⟩))
            go_wp2_with fail
            go_roundw
            case rel => exact ⟨x + 1, s7, by omega, by go_num, HG7.out⟩
            case measure => simp [intOf]; omega
          · rw [if_pos rfl] at hcd
            subst hcd
            go_region_held3 (fun w' => w'.cell? ⟨bL, x, none⟩ = some (.bool true))
              ((first | with_reducible exact HC7.out | with_reducible exact HC6.out))
              (first
                | (go_at_call 18; (with_reducible refine ((HK6.out.ups (up_drew _)).step HXN.out.1 HGG.out HCD.out).mono ?_); rintro r w7 ⟨rfl, s7, K7, f7, c7, M7, G7⟩; have HF7 := Lib.hid f7; have HCC := Lib.hid c7; have HM7 := Lib.hid M7; have HG7 := Lib.hid G7; have HC7 := Lib.hid (show w7.cell? ⟨bL, x, none⟩ = some (.bool true) from (G7.cells HXN.out.2 HGG.out HLV.out).2); clear f7 c7 M7 G7)
                | (go_at_call 19; (with_reducible refine (lkDone HM7.out HF7.out).mono ?_); rintro r w' ⟨rfl, rfl⟩)
                | (go_at_call 20; (with_reducible refine (lkCode HM7.out HCC.out).mono ?_); rintro r w' ⟨rfl, rfl⟩))
            go_wp2_with fail
            go_roundw
            case rel => exact ⟨x + 1, s7, by omega, by go_num, HG7.out⟩
            case measure => simp [intOf]; omega
        · have x1 : ¬ (x : Int) < (n : Int) := by omega
          go_wp2_with fail
          go_ret
          exact ⟨rfl, HUA.out.trans HG2.out.sole.up⟩

set_option maxRecDepth 100000 in
theorem lifted (os : Os) (started : os.Started) (H : Type) (enc : TypeId × Value → H) :
    ReturnsInHanded {} Tryz.checked os 4 .any (Rows.rootsGensSpec.pre6 enc Tryz.prog Tryz.f4 Rows.rootsGensRow.domain false) (Rows.rootsGensSpec.post enc Tryz.prog Tryz.f4 false true false false) := by
  refine returnsInHanded_of_change (C := Tryz.checked) own started (by kernel_rfl) Tryz.func4
    (ChangeSpec.witness6 (enc := enc) (C := Tryz.checked) false ⟨#[], #[.int .i64 0, .slice none 0 0], []⟩ 8 (by kernel_rfl) (by kernel_rfl) (by kernel_rfl) (by kernel_rfl)) ?_
  intro W base args ds gs before hval0 hW hcnd _
  have hval : ∀ (j : Nat) t v, Tryz.f4.params[j]? = some t → args[j]? = some v → Value.okWide Tryz.prog W .any base t v := hval0
  have hW' := hW
  obtain ⟨p, q, hA0, hV, rfl, hfz, hnd⟩ := hW
  have hA : DataW.TrodAll enc Tryz.prog W 0 (fun _ => true) true Tryz.f4.params.toList args.toList ds p := hA0
  rw [Tryz.params4] at hA hval
  obtain ⟨v0, vs0, d0, ds0, p0, q0, hargs, rfl, rfl, h0, r0⟩ := trodAll_cons hA
  obtain ⟨v1, vs1, d1, ds1, p1, q1, rfl, rfl, rfl, h1, r1⟩ := trodAll_cons r0
  obtain ⟨rfl, rfl, rfl⟩ := trodAll_nil r1
  obtain rfl : args = #[v0, v1] := by cases args; simp_all
  obtain ⟨rfl, rfl⟩ := trodVars_none hV
  have k0 := h0
  have lt0 : ∀ x ∈ p0, x.block < W.heap.size := by obtain ⟨m, hm⟩ := k0; exact DataW.trod_lt m _ _ _ hm
  obtain ⟨a0, rfl, rfl, rfl, w0⟩ := open_int Tryz.underlying3 (hval 0 3 v0 rfl rfl) h0
  have k1 := h1
  have lt1 : ∀ x ∈ p1, x.block < W.heap.size := by obtain ⟨m, hm⟩ := k1; exact DataW.trod_lt m _ _ _ hm
  obtain ⟨a1, len1, cap1, rfl⟩ := okWide_slice Tryz.underlying22 (hval 1 22 v1 rfl rfl)
  obtain ⟨z1, w1⟩ : ∃ zs, IsRow .i64 W a1 len1 cap1 zs := by
    obtain ⟨fuel, hf⟩ := h1
    rcases open_ints Tryz.underlying22 Tryz.underlying3 (by kernel_rfl) hf with ⟨hcs, _⟩ | ⟨x, l, c, zs, hcs, _, hl, hm, hz, _, hcell, hwz⟩
    · simp [Value.cells] at hcs
      obtain ⟨rfl, rfl, rfl⟩ := hcs
      exact ⟨[], .inl ⟨rfl, rfl, rfl, rfl⟩⟩
    · simp [Value.cells] at hcs
      obtain ⟨rfl, rfl, rfl⟩ := hcs
      exact ⟨zs, .inr ⟨_, rfl, hl, hm, by simpa using hz, hcell, hwz⟩⟩
  clear hA0 hval0
  refine (walk a0 a1 len1 cap1 z1 W w0 w1).mono fun e W' ⟨he, bel⟩ => ?_
  subst he
  exact ⟨_, rfl, _, _, _, [], _, [], hW', trodAll_mk1 (shut_bool Tryz.underlying4 _), (trodAll_cons_mk (Below.trod laidOut (by kernel_rfl) (of_decide_eq_true (by kernel_rfl)) k0 bel lt0) (trodAll_cons_mk (Below.trod laidOut (by kernel_rfl) (of_decide_eq_true (by kernel_rfl)) k1 bel lt1) trodAll_mk0)), rfl, Below.frame bel _, fun h => by cases h⟩

theorem over : Rows.rootsGensRow.holds Tryz.pinned (OpenSpec.ofChange Rows.rootsGensSpec) :=
  OpenClaim.holds_of_wide 4 Tryz.f4 rfl rfl rfl rfl rfl rfl rfl ⟨rfl, rfl, rfl, rfl, rfl⟩ rfl rfl rfl rfl rfl (by kernel_rfl) Tryz.func4 (by kernel_rfl)
    (of_decide_eq_true (by kernel_rfl)) (by unfold Func.isWrapper; first | (rw [if_pos (by decide +kernel)]; kernel_rfl) | (rw [if_neg (by decide +kernel)]; exact ⟨rfl, rfl⟩))
    (fun os started H enc _ => lifted os started H enc)

/-- THE STATEMENT -/
theorem proved : Rows.RootsGensSaid := over
#print axioms proved
end Go.Proofs.YtalglhgngedjoaaGreat.rootsGens
