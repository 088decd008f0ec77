/-
  GripPlays of layer 10: whatever is pinned, held, unpinned, what each call answers, how deep, what is held are what the reference says; for every list of at most 200 things.
-/
import Derived.Test.YtkfmnaocdfoigaaRows
import Derived.Test.YtkfmnaocdfoigaaGripPlay
import Derived.WalkKit
import Derived.ProofKit
import Derived.OpenShut
import Derived.ShutString
import Derived.ChangeOld
import Derived.Below
import Derived.Carry
import Derived.Lib.SmallJoins
import Derived.Deep.RegionHeld3
import Derived.BigQuiet
namespace Go.Proofs.Ytkfmnaocdfoigaa.gripPlays
open Go.ChangeShapes Go.WideShapes Go.ChangeAt Go.RowKit Go.Joins Go.Proofs.Ytkfmnaocdfoigaa W64
open Go.ChangeMaps (open_string shut_string)
set_option linter.unusedVariables false

theorem own : ownKnob Try.prog.godebug = none := by kernel_rfl
theorem laidOut : laidOutB Try.prog = true := by kernel_rfl


set_option maxHeartbeats 16000000 in
set_option maxRecDepth 100000 in
theorem walk (a0 : Option Addr) (len0 cap0 : Nat) (z0 : Nat → Nat → Int) (w : World) (w0 : IsRows [.i64, .i64, .i64] w a0 len0 cap0 z0) :
    Calls Try.prog 3 #[.slice a0 len0 cap0] w fun e w' => e = .returned (.bool true) ∧ Up w w' := by
  have hm := w0.len_le
  unfold maxLen at hm
  have HW1 := Lib.hid w0
  clear w0
  by_cases hlen : len0 ≤ 200
  rotate_left
  · have hl2 : 200 < len0 := by omega
    go_enter Try.func3, Try.ntmps3
    go_wp2_with (first
      | (go_at_call 7; refine (first_any _).mono ?_; rintro e wA ⟨rfl, UA⟩))
    go_ret
    exact ⟨rfl, UA⟩
  go_enter Try.func3, Try.ntmps3
  go_wp2_with (first
    | (go_at_call 7; refine (first_any _).mono ?_; rintro e wA ⟨rfl, UA⟩)
    | (go_at_call 8; refine (gnew_to _).mono ?_; rintro e w1 ⟨q, rfl, M1⟩; have HM1 := Lib.hid M1; clear M1))
  have HUA := Lib.hid UA
  have HT0 := Lib.hid (gtwo_new HM1.out (gri_new 29 48 w1) (Up.alloc _ _) (fun b hb => by simp at hb; omega))
  clear UA
  obtain ⟨p, hp⟩ : ∃ p, w1.heap.size = p := ⟨_, rfl⟩
  rw [hp] at HT0 ⊢
  clear hp
  generalize w1.alloc (.cells #[.int .i64 0, .slice none 0 0] 29) = wS at *
  go_loopw [6] (fun i wr => GPlayRel wA q p len0 i wr) (fun i _ => len0 - (intOf i).toNat)
  case atStart => exact ⟨0, _, _, _, _, rfl, Nat.zero_le _, HT0.out⟩
  case round =>
    obtain ⟨i, d, L, F, G, rfl, him, T⟩ := hrel
    have HT := Lib.hid T
    clear T
    have i0 : (0 : Int) ≤ (i : Int) := Int.natCast_nonneg _
    by_cases hlt : i < len0
    rotate_left
    · have i1 : ¬ (i : Int) < (len0 : Int) := by omega
      go_wp2_with fail
      go_ret
      exact ⟨rfl, HUA.out.trans HT.out.up⟩
    have i1 : (i : Int) < (len0 : Int) := by omega
    obtain ⟨b, off, rfl, hb, c0, c1, c2⟩ := HW1.out.three hlt
    obtain ⟨x0, hx0⟩ : ∃ x, z0 i 0 = x := ⟨_, rfl⟩
    obtain ⟨x1, hx1⟩ : ∃ x, z0 i 1 = x := ⟨_, rfl⟩
    obtain ⟨x2, hx2⟩ : ∃ x, z0 i 2 = x := ⟨_, rfl⟩
    rw [hx0] at c0
    rw [hx1] at c1
    rw [hx2] at c2
    have HU0 := Lib.hid (HUA.out.trans HT.out.up)
    replace c0 := HU0.out.kept c0
    replace c1 := HU0.out.kept c1
    replace c2 := HU0.out.kept c2
    clear hb hx0 hx1 hx2
    go_upto_region 14 with fail
    obtain ⟨db, hdb⟩ : ∃ db, wr.heap.size = db := ⟨_, rfl⟩
    have y0 : (wr.alloc (.cells #[.int .i64 x0, .int .i64 x1, .int .i64 x2] 30)).cell? ⟨db, 0, none⟩ = some (.int .i64 x0) := cell_new hdb.symm rfl
    have y1 : (wr.alloc (.cells #[.int .i64 x0, .int .i64 x1, .int .i64 x2] 30)).cell? ⟨db, 1, none⟩ = some (.int .i64 x1) := cell_new hdb.symm rfl
    have y2 : (wr.alloc (.cells #[.int .i64 x0, .int .i64 x1, .int .i64 x2] 30)).cell? ⟨db, 2, none⟩ = some (.int .i64 x2) := cell_new hdb.symm rfl
    have HT1 := Lib.hid (HT.out.then (Up.alloc wr (.cells #[.int .i64 x0, .int .i64 x1, .int .i64 x2] 30)))
    have HDF := Lib.hid (show db ∉ F from fun h => by have := HT.out.a.lt db h; omega)
    have HDG := Lib.hid (show db ∉ G from fun h => by have := HT.out.b.lt db h; omega)
    rw [hdb]
    generalize wr.alloc (.cells #[.int .i64 x0, .int .i64 x1, .int .i64 x2] 30) = w1 at *
    clear hdb c0 c1 c2
    obtain ⟨kk, hkk, _, kk0, kk1⟩ := emod_letter x0 5 (by decide)
    have HKK := Lib.hid hkk
    clear hkk
    have hways : kk = 0 ∨ kk = 1 ∨ kk = 2 ∨ kk = 3 ∨ kk = 4 := by omega
    clear kk0 kk1
    rcases hways with rfl | rfl | rfl | rfl | rfl
    · obtain ⟨d8, hd8⟩ : ∃ d8, pinD d = d8 := ⟨_, rfl⟩
      obtain ⟨ba, hba⟩ : ∃ x, pinB d = x := ⟨_, rfl⟩
      obtain ⟨ca, hca⟩ : ∃ x, pinE d = x := ⟨_, rfl⟩
      have H1 := Lib.hid hba
      have H2 := Lib.hid hca
      have H3 := Lib.hid hd8
      clear hd8 hba hca
      go_upto_region 28 with (first
        | (go_at_call 9; (with_reducible refine (number_is HKK.out (by decide) (by decide) _).mono ?_); rintro e w' ⟨rfl, rfl⟩)
        | (go_at_call 10; (with_reducible refine (gpin_q HT1.out.a H1.out H2.out H3.out).mono ?_); rintro e w6 ⟨rfl, G6⟩; obtain ⟨F6, P6, E6⟩ := HT1.out.turnA G6; have HT6 := Lib.hid P6; have HE6 := Lib.hid (And.intro (E6.kept (p := ⟨db, 1, none⟩) y1 HDF.out) (E6.kept (p := ⟨db, 2, none⟩) y2 HDF.out)); clear G6 P6 E6)
        | (go_at_call 11; (with_reducible refine (rgpin_q HT6.out.b H1.out H2.out H3.out).mono ?_); rintro e w8 ⟨rfl, G8⟩; obtain ⟨F8, P8, E8⟩ := HT6.out.turnB G8; have HT8 := Lib.hid P8; have v1 := E8.kept HE6.out.1 HDG.out; have v2 := E8.kept HE6.out.2 HDG.out; clear G8 P8 E8))
      clear y0 y1 y2
      obtain ⟨n8, hn8⟩ : ∃ n8, L.length = n8 := ⟨_, rfl⟩
      obtain ⟨bb, hbb⟩ : ∃ bb, decide ((x1, x2) ∈ L) = bb := ⟨_, rfl⟩
      have HN8 := Lib.hid hn8
      have HBB := Lib.hid hbb
      clear hn8 hbb
      obtain ⟨AX, cX, kX0, kX1⟩ := HT8.out.b.look HN8.out
      go_upto_region 28 with fail
      have V := Up.refl w8
      replace kX0 := cell_class kX0
      replace kX1 := cell_class kX1
      replace v1 := cell_class v1
      replace v2 := cell_class v2
      refine wp_region_up V (by kernel_rfl) (by kernel_rfl) ?_
      repeat (go_big_quiet_step (first
        | (go_at_call 16; (with_reducible exact gdepth_cl HT8.out.a _))
        | (go_at_call 17; (with_reducible exact glen_cl HT8.out.a HN8.out _))
        | (go_at_call 18; (with_reducible exact gholds_cl HT8.out.a HBB.out _))
        | (go_at_call 19; (with_reducible exact rgholds_cl HT8.out.b HBB.out _))))
      refine wpQuiet_nil ?_
      rintro _ ⟨y, rfl⟩
      clear kX0 kX1 v1 v2
      go_wp2_with fail
      go_roundw
      case rel => exact ⟨i + 1, d8, L, _, _, by go_num, by omega, HT8.out.then y.up⟩
      case measure => simp [intOf]; omega
    · obtain ⟨d8, hd8⟩ : ∃ d8, pinD d = d8 := ⟨_, rfl⟩
      obtain ⟨ba, hba⟩ : ∃ x, pinB d = x := ⟨_, rfl⟩
      obtain ⟨ca, hca⟩ : ∃ x, pinE d = x := ⟨_, rfl⟩
      have H1 := Lib.hid hba
      have H2 := Lib.hid hca
      have H3 := Lib.hid hd8
      clear hd8 hba hca
      go_upto_region 28 with (first
        | (go_at_call 9; (with_reducible refine (number_is HKK.out (by decide) (by decide) _).mono ?_); rintro e w' ⟨rfl, rfl⟩)
        | (go_at_call 10; (with_reducible refine (gpin_q HT1.out.a H1.out H2.out H3.out).mono ?_); rintro e w6 ⟨rfl, G6⟩; obtain ⟨F6, P6, E6⟩ := HT1.out.turnA G6; have HT6 := Lib.hid P6; have HE6 := Lib.hid (And.intro (E6.kept (p := ⟨db, 1, none⟩) y1 HDF.out) (E6.kept (p := ⟨db, 2, none⟩) y2 HDF.out)); clear G6 P6 E6)
        | (go_at_call 11; (with_reducible refine (rgpin_q HT6.out.b H1.out H2.out H3.out).mono ?_); rintro e w8 ⟨rfl, G8⟩; obtain ⟨F8, P8, E8⟩ := HT6.out.turnB G8; have HT8 := Lib.hid P8; have v1 := E8.kept HE6.out.1 HDG.out; have v2 := E8.kept HE6.out.2 HDG.out; clear G8 P8 E8))
      clear y0 y1 y2
      obtain ⟨n8, hn8⟩ : ∃ n8, L.length = n8 := ⟨_, rfl⟩
      obtain ⟨bb, hbb⟩ : ∃ bb, decide ((x1, x2) ∈ L) = bb := ⟨_, rfl⟩
      have HN8 := Lib.hid hn8
      have HBB := Lib.hid hbb
      clear hn8 hbb
      obtain ⟨AX, cX, kX0, kX1⟩ := HT8.out.b.look HN8.out
      go_upto_region 28 with fail
      have V := Up.refl w8
      replace kX0 := cell_class kX0
      replace kX1 := cell_class kX1
      replace v1 := cell_class v1
      replace v2 := cell_class v2
      refine wp_region_up V (by kernel_rfl) (by kernel_rfl) ?_
      repeat (go_big_quiet_step (first
        | (go_at_call 16; (with_reducible exact gdepth_cl HT8.out.a _))
        | (go_at_call 17; (with_reducible exact glen_cl HT8.out.a HN8.out _))
        | (go_at_call 18; (with_reducible exact gholds_cl HT8.out.a HBB.out _))
        | (go_at_call 19; (with_reducible exact rgholds_cl HT8.out.b HBB.out _))))
      refine wpQuiet_nil ?_
      rintro _ ⟨y, rfl⟩
      clear kX0 kX1 v1 v2
      go_wp2_with fail
      go_roundw
      case rel => exact ⟨i + 1, d8, L, _, _, by go_num, by omega, HT8.out.then y.up⟩
      case measure => simp [intOf]; omega
    · obtain ⟨d8, hd8⟩ : ∃ d8, d - 1 = d8 := ⟨_, rfl⟩
      obtain ⟨ba, hba⟩ : ∃ x, unB d = x := ⟨_, rfl⟩
      obtain ⟨ca, hca⟩ : ∃ x, unE d = x := ⟨_, rfl⟩
      obtain ⟨L8, hL8⟩ : ∃ L8, unL d L = L8 := ⟨_, rfl⟩
      have H1 := Lib.hid hba
      have H2 := Lib.hid hca
      have H3 := Lib.hid hd8
      have H4 := Lib.hid hL8
      clear hd8 hba hca hL8
      go_upto_region 28 with (first
        | (go_at_call 9; (with_reducible refine (number_is HKK.out (by decide) (by decide) _).mono ?_); rintro e w' ⟨rfl, rfl⟩)
        | (go_at_call 12; (with_reducible refine (gunpin_q HT1.out.a H1.out H2.out H3.out H4.out).mono ?_); rintro e w6 ⟨rfl, G6⟩; obtain ⟨F6, P6, E6⟩ := HT1.out.turnA G6; have HT6 := Lib.hid P6; have HE6 := Lib.hid (And.intro (E6.kept (p := ⟨db, 1, none⟩) y1 HDF.out) (E6.kept (p := ⟨db, 2, none⟩) y2 HDF.out)); clear G6 P6 E6)
        | (go_at_call 13; (with_reducible refine (rgunpin_q HT6.out.b H1.out H2.out H3.out H4.out).mono ?_); rintro e w8 ⟨rfl, G8⟩; obtain ⟨F8, P8, E8⟩ := HT6.out.turnB G8; have HT8 := Lib.hid P8; have v1 := E8.kept HE6.out.1 HDG.out; have v2 := E8.kept HE6.out.2 HDG.out; clear G8 P8 E8))
      clear y0 y1 y2
      obtain ⟨n8, hn8⟩ : ∃ n8, L8.length = n8 := ⟨_, rfl⟩
      obtain ⟨bb, hbb⟩ : ∃ bb, decide ((x1, x2) ∈ L8) = bb := ⟨_, rfl⟩
      have HN8 := Lib.hid hn8
      have HBB := Lib.hid hbb
      clear hn8 hbb
      obtain ⟨AX, cX, kX0, kX1⟩ := HT8.out.b.look HN8.out
      go_upto_region 28 with fail
      have V := Up.refl w8
      replace kX0 := cell_class kX0
      replace kX1 := cell_class kX1
      replace v1 := cell_class v1
      replace v2 := cell_class v2
      refine wp_region_up V (by kernel_rfl) (by kernel_rfl) ?_
      repeat (go_big_quiet_step (first
        | (go_at_call 16; (with_reducible exact gdepth_cl HT8.out.a _))
        | (go_at_call 17; (with_reducible exact glen_cl HT8.out.a HN8.out _))
        | (go_at_call 18; (with_reducible exact gholds_cl HT8.out.a HBB.out _))
        | (go_at_call 19; (with_reducible exact rgholds_cl HT8.out.b HBB.out _))))
      refine wpQuiet_nil ?_
      rintro _ ⟨y, rfl⟩
      clear kX0 kX1 v1 v2
      go_wp2_with fail
      go_roundw
      case rel => exact ⟨i + 1, d8, L8, _, _, by go_num, by omega, HT8.out.then y.up⟩
      case measure => simp [intOf]; omega
    · obtain ⟨ca, hca⟩ : ∃ x, holdE d L (x1, x2) = x := ⟨_, rfl⟩
      obtain ⟨L8, hL8⟩ : ∃ L8, holdL d L (x1, x2) = L8 := ⟨_, rfl⟩
      have H1 := Lib.hid hca
      have H2 := Lib.hid hL8
      clear hca hL8
      go_upto_region 15 with (first
        | (go_at_call 9; (with_reducible refine (number_is HKK.out (by decide) (by decide) _).mono ?_); rintro e w' ⟨rfl, rfl⟩))
      have HT1d := Lib.hid (HT1.out.then (up_drew w1))
      go_region_held3 (fun w' => w'.cell? ⟨db, 1, none⟩ = some (.int .i64 x1) ∧ w'.cell? ⟨db, 2, none⟩ = some (.int .i64 x2))
        ((first | exact HKB.out | exact HKA.out | exact ⟨y1, y2⟩))
        (first
          | (go_at_call 14; (with_reducible refine (ghold_q HT1d.out.a H1.out H2.out).mono ?_); rintro e w6 ⟨rfl, G6⟩; obtain ⟨F6, P6, E6⟩ := HT1d.out.turnA G6; have HT6 := Lib.hid P6; have HKA := Lib.hid (And.intro (E6.kept (p := ⟨db, 1, none⟩) y1 HDF.out) (E6.kept (p := ⟨db, 2, none⟩) y2 HDF.out)); clear G6 P6 E6)
          | (go_at_call 15; (with_reducible refine (rghold_q HT1d.out.b H1.out H2.out).mono ?_); rintro e w6 ⟨rfl, G6⟩; obtain ⟨F6, P6, E6⟩ := HT1d.out.turnB G6; have HC6 := Lib.hid P6; have HKA := Lib.hid (And.intro (E6.kept (p := ⟨db, 1, none⟩) y1 HDG.out) (E6.kept (p := ⟨db, 2, none⟩) y2 HDG.out)); clear G6 P6 E6)
          | (go_at_call 15; (with_reducible refine (rghold_q HT6.out.b H1.out H2.out).mono ?_); rintro e w8 ⟨rfl, G8⟩; obtain ⟨F8, P8, E8⟩ := HT6.out.turnB G8; have HT8 := Lib.hid P8; have HKB := Lib.hid (And.intro (E8.kept HKA.out.1 HDG.out) (E8.kept HKA.out.2 HDG.out)); clear G8 P8 E8)
          | (go_at_call 14; (with_reducible refine (ghold_q HC6.out.a H1.out H2.out).mono ?_); rintro e w8 ⟨rfl, G8⟩; obtain ⟨F8, P8, E8⟩ := HC6.out.turnA G8; have HT8 := Lib.hid P8; have HKB := Lib.hid (And.intro (E8.kept HKA.out.1 HDF.out) (E8.kept HKA.out.2 HDF.out)); clear G8 P8 E8))
      all_goals
        have v1 := HKB.out.1
        have v2 := HKB.out.2
        clear y0 y1 y2
        obtain ⟨n8, hn8⟩ : ∃ n8, L8.length = n8 := ⟨_, rfl⟩
        obtain ⟨bb, hbb⟩ : ∃ bb, decide ((x1, x2) ∈ L8) = bb := ⟨_, rfl⟩
        have HN8 := Lib.hid hn8
        have HBB := Lib.hid hbb
        clear hn8 hbb
        obtain ⟨AX, cX, kX0, kX1⟩ := HT8.out.b.look HN8.out
        go_upto_region 28 with fail
        have V := Up.refl w8
        replace kX0 := cell_class kX0
        replace kX1 := cell_class kX1
        replace v1 := cell_class v1
        replace v2 := cell_class v2
        refine wp_region_up V (by kernel_rfl) (by kernel_rfl) ?_
        repeat (go_big_quiet_step (first
          | (go_at_call 16; (with_reducible exact gdepth_cl HT8.out.a _))
          | (go_at_call 17; (with_reducible exact glen_cl HT8.out.a HN8.out _))
          | (go_at_call 18; (with_reducible exact gholds_cl HT8.out.a HBB.out _))
          | (go_at_call 19; (with_reducible exact rgholds_cl HT8.out.b HBB.out _))))
        refine wpQuiet_nil ?_
        rintro _ ⟨y, rfl⟩
        clear kX0 kX1 v1 v2
        go_wp2_with fail
        go_roundw
        case rel => exact ⟨i + 1, d, L8, _, _, by go_num, by omega, HT8.out.then y.up⟩
        case measure => simp [intOf]; omega
    · obtain ⟨ca, hca⟩ : ∃ x, holdE d L (x1, x2) = x := ⟨_, rfl⟩
      obtain ⟨L8, hL8⟩ : ∃ L8, holdL d L (x1, x2) = L8 := ⟨_, rfl⟩
      have H1 := Lib.hid hca
      have H2 := Lib.hid hL8
      clear hca hL8
      go_upto_region 15 with (first
        | (go_at_call 9; (with_reducible refine (number_is HKK.out (by decide) (by decide) _).mono ?_); rintro e w' ⟨rfl, rfl⟩))
      have HT1d := Lib.hid (HT1.out.then (up_drew w1))
      go_region_held3 (fun w' => w'.cell? ⟨db, 1, none⟩ = some (.int .i64 x1) ∧ w'.cell? ⟨db, 2, none⟩ = some (.int .i64 x2))
        ((first | exact HKB.out | exact HKA.out | exact ⟨y1, y2⟩))
        (first
          | (go_at_call 14; (with_reducible refine (ghold_q HT1d.out.a H1.out H2.out).mono ?_); rintro e w6 ⟨rfl, G6⟩; obtain ⟨F6, P6, E6⟩ := HT1d.out.turnA G6; have HT6 := Lib.hid P6; have HKA := Lib.hid (And.intro (E6.kept (p := ⟨db, 1, none⟩) y1 HDF.out) (E6.kept (p := ⟨db, 2, none⟩) y2 HDF.out)); clear G6 P6 E6)
          | (go_at_call 15; (with_reducible refine (rghold_q HT1d.out.b H1.out H2.out).mono ?_); rintro e w6 ⟨rfl, G6⟩; obtain ⟨F6, P6, E6⟩ := HT1d.out.turnB G6; have HC6 := Lib.hid P6; have HKA := Lib.hid (And.intro (E6.kept (p := ⟨db, 1, none⟩) y1 HDG.out) (E6.kept (p := ⟨db, 2, none⟩) y2 HDG.out)); clear G6 P6 E6)
          | (go_at_call 15; (with_reducible refine (rghold_q HT6.out.b H1.out H2.out).mono ?_); rintro e w8 ⟨rfl, G8⟩; obtain ⟨F8, P8, E8⟩ := HT6.out.turnB G8; have HT8 := Lib.hid P8; have HKB := Lib.hid (And.intro (E8.kept HKA.out.1 HDG.out) (E8.kept HKA.out.2 HDG.out)); clear G8 P8 E8)
          | (go_at_call 14; (with_reducible refine (ghold_q HC6.out.a H1.out H2.out).mono ?_); rintro e w8 ⟨rfl, G8⟩; obtain ⟨F8, P8, E8⟩ := HC6.out.turnA G8; have HT8 := Lib.hid P8; have HKB := Lib.hid (And.intro (E8.kept HKA.out.1 HDF.out) (E8.kept HKA.out.2 HDF.out)); clear G8 P8 E8))
      all_goals
        have v1 := HKB.out.1
        have v2 := HKB.out.2
        clear y0 y1 y2
        obtain ⟨n8, hn8⟩ : ∃ n8, L8.length = n8 := ⟨_, rfl⟩
        obtain ⟨bb, hbb⟩ : ∃ bb, decide ((x1, x2) ∈ L8) = bb := ⟨_, rfl⟩
        have HN8 := Lib.hid hn8
        have HBB := Lib.hid hbb
        clear hn8 hbb
        obtain ⟨AX, cX, kX0, kX1⟩ := HT8.out.b.look HN8.out
        go_upto_region 28 with fail
        have V := Up.refl w8
        replace kX0 := cell_class kX0
        replace kX1 := cell_class kX1
        replace v1 := cell_class v1
        replace v2 := cell_class v2
        refine wp_region_up V (by kernel_rfl) (by kernel_rfl) ?_
        repeat (go_big_quiet_step (first
          | (go_at_call 16; (with_reducible exact gdepth_cl HT8.out.a _))
          | (go_at_call 17; (with_reducible exact glen_cl HT8.out.a HN8.out _))
          | (go_at_call 18; (with_reducible exact gholds_cl HT8.out.a HBB.out _))
          | (go_at_call 19; (with_reducible exact rgholds_cl HT8.out.b HBB.out _))))
        refine wpQuiet_nil ?_
        rintro _ ⟨y, rfl⟩
        clear kX0 kX1 v1 v2
        go_wp2_with fail
        go_roundw
        case rel => exact ⟨i + 1, d, L8, _, _, by go_num, by omega, HT8.out.then y.up⟩
        case measure => simp [intOf]; omega

set_option maxRecDepth 100000 in
theorem lifted (os : Os) (started : os.Started) (H : Type) (enc : TypeId × Value → H) :
    ReturnsInHanded {} Try.checked os 3 .any (Rows.gripPlaysSpec.pre6 enc Try.prog Try.f3 Rows.gripPlaysRow.domain false) (Rows.gripPlaysSpec.post enc Try.prog Try.f3 false true false false) := by
  refine returnsInHanded_of_change (C := Try.checked) own started (by kernel_rfl) Try.func3
    (ChangeSpec.witness6 (enc := enc) (C := Try.checked) false ⟨#[], #[.slice none 0 0], []⟩ 8 (by kernel_rfl) (by kernel_rfl) (by kernel_rfl) (by kernel_rfl)) ?_
  intro W base args ds gs before hval0 hW hcnd _
  have hval : ∀ (j : Nat) t v, Try.f3.params[j]? = some t → args[j]? = some v → Value.okWide Try.prog W .any base t v := hval0
  have hW' := hW
  obtain ⟨p, q, hA0, hV, rfl, hfz, hnd⟩ := hW
  have hA : DataW.TrodAll enc Try.prog W 0 (fun _ => true) true Try.f3.params.toList args.toList ds p := hA0
  rw [Try.params3] at hA hval
  obtain ⟨v0, vs0, d0, ds0, p0, q0, hargs, rfl, rfl, h0, r0⟩ := trodAll_cons hA
  obtain ⟨rfl, rfl, rfl⟩ := trodAll_nil r0
  obtain rfl : args = #[v0] := by cases args; simp_all
  obtain ⟨rfl, rfl⟩ := trodVars_none hV
  have k0 := h0
  have lt0 : ∀ x ∈ p0, x.block < W.heap.size := by obtain ⟨m, hm⟩ := k0; exact DataW.trod_lt m _ _ _ hm
  obtain ⟨a0, len0, cap0, z0, rfl, w0⟩ := open_arrs (ks := [.i64, .i64, .i64]) (k := .i64) Try.underlying22 Try.underlying30 (by kernel_rfl) (by kernel_rfl) rfl Try.underlying3 (hval 0 22 v0 rfl rfl) h0
  clear hA0 hval0
  refine (walk a0 len0 cap0 z0 W w0).mono fun e W' ⟨he, bel⟩ => ?_
  subst he
  exact ⟨_, rfl, _, _, _, [], _, [], hW', trodAll_mk1 (shut_bool Try.underlying4 _), (trodAll_cons_mk (Below.trod laidOut (by kernel_rfl) (of_decide_eq_true (by kernel_rfl)) k0 bel lt0) trodAll_mk0), rfl, Below.frame bel _, fun h => by cases h⟩

theorem over : Rows.gripPlaysRow.holds Try.pinned (OpenSpec.ofChange Rows.gripPlaysSpec) :=
  OpenClaim.holds_of_wide 3 Try.f3 rfl rfl rfl rfl rfl rfl rfl ⟨rfl, rfl, rfl, rfl, rfl⟩ rfl rfl rfl rfl rfl (by kernel_rfl) Try.func3 (by kernel_rfl)
    (of_decide_eq_true (by kernel_rfl)) (by unfold Func.isWrapper; first | (rw [if_pos (by decide +kernel)]; kernel_rfl) | (rw [if_neg (by decide +kernel)]; exact ⟨rfl, rfl⟩))
    (fun os started H enc _ => lifted os started H enc)

/-- THE STATEMENT -/
theorem proved : Rows.GripPlaysSaid := over
#print axioms proved
end Go.Proofs.Ytkfmnaocdfoigaa.gripPlays
