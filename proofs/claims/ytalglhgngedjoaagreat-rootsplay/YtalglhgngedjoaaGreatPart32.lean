/-
  Texts beneath RootsPlay, part 32: RtBegins2, RtBegins3, RtBegin2, RtBegins4.
-/
import Derived.Test.YtalglhgngedjoaaGreatPart31
/-
  RootsPlay: a machine more (hands.begins): an End.
-/
namespace Go.Proofs.YtalglhgngedjoaaGreat
open Go.RowKit
open W64
set_option maxRecDepth 100000
section
variable {W w w' : World} {l : Lie} {n bH D T u : Nat} {m : Nat → PM} {V : Nat → Value} {o L : Nat → List Nat} {s : St}
set_option maxHeartbeats 4000000 in
theorem begins_ed_root (X : Play W w l n bH D T m V o L s) (Y : ∀ u, u < 4 → (m u).live n T) (_hT : T ≤ 1000) (hu : u < 4) (em : m u = .idle) {z : Int} (z0 : 0 ≤ z) (z1 : z < 240) (pS : slotZ z < n) (pE : z.tmod 2 = 0) (hr : ¬ z.tmod 5 < 2) (hr4 : z.tmod 5 < 4) (hL : L u = []) :
    Calls Tryz.prog 49 #[.pointer (some ⟨bH, 0, none⟩), .pointer (some ⟨l.q, 0, none⟩), .pointer (some ⟨l.k, 0, none⟩), .int .i64 (u : Int), .int .i64 z] w fun e w' => e = .returned (.bool true) ∧ PlayOut W l n bH D (T + 6) w' := by
  obtain ⟨a, c, g6, r, e2, ha, hsl, hc, hg6, hr5, he, bd⟩ := nums z z0 z1
  obtain ⟨sl, hsz⟩ : ∃ sl, slotZ z = sl := ⟨_, rfl⟩
  rw [hsz] at hsl pS
  rw [hr5] at hr
  rw [he] at pE
  clear hsz
  obtain ⟨gg, hgg⟩ : ∃ gg, 1 + g6 = gg := ⟨_, rfl⟩
  obtain ⟨wa1, wa2⟩ := wr64 a (by omega)
  obtain ⟨wc1, wc2⟩ := wr64 c (by omega)
  obtain ⟨wg1, wg2⟩ := wr64 gg (by omega)
  have HPS := Lib.hid pS
  have hn4 : (n : Int) < 1000000000 := X.n_lt
  have pS1 : (sl : Int) < (n : Int) := by omega
  have pS2 : ¬ (n : Int) ≤ (sl : Int) := by omega
  subst pE
  have j0 : (0 : Int) ≤ (u : Int) := Int.natCast_nonneg _
  have j1 : (u : Int) < 4 := by omega
  have k3 := X.slots_cell
  have HX := Lib.hid X
  have HY := Lib.hid Y
  have HEM := Lib.hid em
  rw [hr5] at hr4
  obtain ⟨A0, c0, hv0⟩ := (X.sl u hu).slice
  rw [hL] at hv0
  have HV0 := Lib.hid hv0
  clear hv0
  clear X Y em z0 z1 pS bd hn4
  go_enter Tryz.func49, Tryz.ntmps49
  have hrf := run_rfield
  go_upto_region 4 with (go_at_call 89; (with_reducible refine (HX.out.root HPS.out).mono ?_); rintro ee w1 ⟨g9, mm, cc, oo, rfl, U1⟩; have HX1 := Lib.hid (HX.out.ups U1); clear U1)
  have k3b := HX1.out.slots_cell
  clear k3 hrf
  have k32 := tab_cell HX1.out.arr (k := 32 + u) (by omega) HV0.out
  go_upto_region 17 with (first
    | (go_at_call 25; refine (edNew HX1.out.roo HPS.out _).mono ?_; rintro ee w2 ⟨b, rfl, P2, b2, U2⟩; have k3c := U2.kept k3b))
  go_region_held3 (fun _ => True) (exact trivial)
    (first
      | (go_at_call 92; refine (redNew l.k sl _ _).mono ?_; rintro ee w3 ⟨rb, rfl, R3, rb3, U3⟩; have QB := HX1.out.beginEd HY.out hu HEM.out ((U2.trans (up_drew _)).trans U3) ⟨rfl, HPS.out, Nat.zero_le _⟩ (P2.up ((up_drew _).trans U3)) R3 ⟨b2, Nat.le_trans U2.size rb3⟩; have HQB := Lib.hid QB.2; obtain ⟨y1, g1, y2, g2⟩ := QB.1; clear QB))
  all_goals
    have yc := HQB.out.cell
    clear y1 g1 y2 g2 P2 R3
    go_wp2_with (first
      | (go_at_call 40; refine (edDone HQB.out.mach (y := false) rfl).mono ?_; rintro ee w9 ⟨rfl, rfl⟩)
      | (go_at_call 42; refine (edChunk HQB.out.mach (y := -1) rfl).mono ?_; rintro ee w9 ⟨rfl, rfl⟩))
    go_ret
    exact ⟨rfl, HQB.out.out.more (by omega)⟩
set_option maxHeartbeats 4000000 in
theorem begins_ed_odd (X : Play W w l n bH D T m V o L s) (Y : ∀ u, u < 4 → (m u).live n T) (_hT : T ≤ 1000) (hu : u < 4) (em : m u = .idle) {z : Int} (z0 : 0 ≤ z) (z1 : z < 240) (pS : slotZ z < n) (pE : ¬ z.tmod 2 = 0) (hr : ¬ z.tmod 5 < 2) (hr4 : z.tmod 5 < 4) (hL : L u = []) :
    Calls Tryz.prog 49 #[.pointer (some ⟨bH, 0, none⟩), .pointer (some ⟨l.q, 0, none⟩), .pointer (some ⟨l.k, 0, none⟩), .int .i64 (u : Int), .int .i64 z] w fun e w' => e = .returned (.bool true) ∧ PlayOut W l n bH D (T + 6) w' := by
  obtain ⟨a, c, g6, r, e2, ha, hsl, hc, hg6, hr5, he, bd⟩ := nums z z0 z1
  obtain ⟨sl, hsz⟩ : ∃ sl, slotZ z = sl := ⟨_, rfl⟩
  rw [hsz] at hsl pS
  rw [hr5] at hr
  rw [he] at pE
  clear hsz
  obtain ⟨gg, hgg⟩ : ∃ gg, 1 + g6 = gg := ⟨_, rfl⟩
  obtain ⟨wa1, wa2⟩ := wr64 a (by omega)
  obtain ⟨wc1, wc2⟩ := wr64 c (by omega)
  obtain ⟨wg1, wg2⟩ := wr64 gg (by omega)
  have HPS := Lib.hid pS
  have hn4 : (n : Int) < 1000000000 := X.n_lt
  have pS1 : (sl : Int) < (n : Int) := by omega
  have pS2 : ¬ (n : Int) ≤ (sl : Int) := by omega
  have pE1 : (e2 == 0) = false := by simp [pE]
  have j0 : (0 : Int) ≤ (u : Int) := Int.natCast_nonneg _
  have j1 : (u : Int) < 4 := by omega
  have k3 := X.slots_cell
  have HX := Lib.hid X
  have HY := Lib.hid Y
  have HEM := Lib.hid em
  rw [hr5] at hr4
  obtain ⟨A0, c0, hv0⟩ := (X.sl u hu).slice
  rw [hL] at hv0
  have HV0 := Lib.hid hv0
  clear hv0
  clear X Y em z0 z1 pS bd hn4
  go_enter Tryz.func49, Tryz.ntmps49
  have HX1 := HX
  go_upto_region 4 with fail
  have k3b := k3
  have k32 := tab_cell HX1.out.arr (k := 32 + u) (by omega) HV0.out
  go_upto_region 17 with (first
    | (go_at_call 25; refine (edNew HX1.out.roo HPS.out _).mono ?_; rintro ee w2 ⟨b, rfl, P2, b2, U2⟩; have k3c := U2.kept k3b))
  go_region_held3 (fun _ => True) (exact trivial)
    (first
      | (go_at_call 92; refine (redNew l.k sl _ _).mono ?_; rintro ee w3 ⟨rb, rfl, R3, rb3, U3⟩; have QB := HX1.out.beginEd HY.out hu HEM.out ((U2.trans (up_drew _)).trans U3) ⟨rfl, HPS.out, Nat.zero_le _⟩ (P2.up ((up_drew _).trans U3)) R3 ⟨b2, Nat.le_trans U2.size rb3⟩; have HQB := Lib.hid QB.2; obtain ⟨y1, g1, y2, g2⟩ := QB.1; clear QB))
  all_goals
    have yc := HQB.out.cell
    clear y1 g1 y2 g2 P2 R3
    go_wp2_with (first
      | (go_at_call 40; refine (edDone HQB.out.mach (y := false) rfl).mono ?_; rintro ee w9 ⟨rfl, rfl⟩)
      | (go_at_call 42; refine (edChunk HQB.out.mach (y := -1) rfl).mono ?_; rintro ee w9 ⟨rfl, rfl⟩))
    go_ret
    exact ⟨rfl, HQB.out.out.more (by omega)⟩
set_option maxHeartbeats 4000000 in
theorem begins_ed_far (X : Play W w l n bH D T m V o L s) (Y : ∀ u, u < 4 → (m u).live n T) (_hT : T ≤ 1000) (hu : u < 4) (em : m u = .idle) {z : Int} (z0 : 0 ≤ z) (z1 : z < 240) (pS : ¬ slotZ z < n) (hr : ¬ z.tmod 5 < 2) (hr4 : z.tmod 5 < 4) (hL : L u = []) :
    Calls Tryz.prog 49 #[.pointer (some ⟨bH, 0, none⟩), .pointer (some ⟨l.q, 0, none⟩), .pointer (some ⟨l.k, 0, none⟩), .int .i64 (u : Int), .int .i64 z] w fun e w' => e = .returned (.bool true) ∧ PlayOut W l n bH D (T + 6) w' := by
  obtain ⟨a, c, g6, r, e2, ha, hsl, hc, hg6, hr5, he, bd⟩ := nums z z0 z1
  obtain ⟨sl, hsz⟩ : ∃ sl, slotZ z = sl := ⟨_, rfl⟩
  rw [hsz] at hsl pS
  rw [hr5] at hr
  clear hsz
  obtain ⟨gg, hgg⟩ : ∃ gg, 1 + g6 = gg := ⟨_, rfl⟩
  obtain ⟨wa1, wa2⟩ := wr64 a (by omega)
  obtain ⟨wc1, wc2⟩ := wr64 c (by omega)
  obtain ⟨wg1, wg2⟩ := wr64 gg (by omega)
  have HPS := Lib.hid pS
  have hn4 : (n : Int) < 1000000000 := X.n_lt
  have pS1 : ¬ (sl : Int) < (n : Int) := by omega
  have pS2 : (n : Int) ≤ (sl : Int) := by omega
  have j0 : (0 : Int) ≤ (u : Int) := Int.natCast_nonneg _
  have j1 : (u : Int) < 4 := by omega
  have k3 := X.slots_cell
  have HX := Lib.hid X
  have HY := Lib.hid Y
  have HEM := Lib.hid em
  rw [hr5] at hr4
  obtain ⟨A0, c0, hv0⟩ := (X.sl u hu).slice
  rw [hL] at hv0
  have HV0 := Lib.hid hv0
  clear hv0
  clear X Y em z0 z1 pS bd hn4
  go_enter Tryz.func49, Tryz.ntmps49
  have HX1 := HX
  go_upto_region 4 with fail
  have k3b := k3
  have k32 := tab_cell HX1.out.arr (k := 32 + u) (by omega) HV0.out
  go_wp2_with (first
    | (go_at_call 25; refine (edNew_no HX1.out.roo (k := (sl : Int)) (fun h => HPS.out (by omega)) _).mono ?_; rintro ee w2 ⟨rfl, rfl⟩))
  go_ret
  exact ⟨rfl, PlayOut.of HX1.out HY.out (by omega)⟩
end
end Go.Proofs.YtalglhgngedjoaaGreat

/-
  RootsPlay: a machine more (hands.begins): a Look.
-/
namespace Go.Proofs.YtalglhgngedjoaaGreat
open Go.RowKit
open W64
set_option maxRecDepth 100000
section
variable {W w w' : World} {l : Lie} {n bH D T u : Nat} {m : Nat → PM} {V : Nat → Value} {o L : Nat → List Nat} {s : St}
set_option maxHeartbeats 4000000 in
theorem begins_lk_root (X : Play W w l n bH D T m V o L s) (Y : ∀ u, u < 4 → (m u).live n T) (_hT : T ≤ 1000) (hu : u < 4) (em : m u = .idle) {z : Int} (z0 : 0 ≤ z) (z1 : z < 240) (pS : slotZ z < n) (pE : z.tmod 2 = 0) (hr4 : ¬ z.tmod 5 < 4) (hL : L u = []) :
    Calls Tryz.prog 49 #[.pointer (some ⟨bH, 0, none⟩), .pointer (some ⟨l.q, 0, none⟩), .pointer (some ⟨l.k, 0, none⟩), .int .i64 (u : Int), .int .i64 z] w fun e w' => e = .returned (.bool true) ∧ PlayOut W l n bH D (T + 6) w' := by
  obtain ⟨a, c, g6, r, e2, ha, hsl, hc, hg6, hr5, he, bd⟩ := nums z z0 z1
  obtain ⟨sl, hsz⟩ : ∃ sl, slotZ z = sl := ⟨_, rfl⟩
  rw [hsz] at hsl pS
  rw [he] at pE
  clear hsz
  obtain ⟨gg, hgg⟩ : ∃ gg, 1 + g6 = gg := ⟨_, rfl⟩
  obtain ⟨wa1, wa2⟩ := wr64 a (by omega)
  obtain ⟨wc1, wc2⟩ := wr64 c (by omega)
  obtain ⟨wg1, wg2⟩ := wr64 gg (by omega)
  have HPS := Lib.hid pS
  have hn4 : (n : Int) < 1000000000 := X.n_lt
  have pS1 : (sl : Int) < (n : Int) := by omega
  have pS2 : ¬ (n : Int) ≤ (sl : Int) := by omega
  subst pE
  have j0 : (0 : Int) ≤ (u : Int) := Int.natCast_nonneg _
  have j1 : (u : Int) < 4 := by omega
  have k3 := X.slots_cell
  have HX := Lib.hid X
  have HY := Lib.hid Y
  have HEM := Lib.hid em
  rw [hr5] at hr4
  have hr2 : ¬ r < 2 := by omega
  obtain ⟨A0, c0, hv0⟩ := (X.sl u hu).slice
  rw [hL] at hv0
  have HV0 := Lib.hid hv0
  clear hv0
  clear X Y em z0 z1 pS bd hn4
  go_enter Tryz.func49, Tryz.ntmps49
  have hrf := run_rfield
  go_upto_region 4 with (go_at_call 89; (with_reducible refine (HX.out.root HPS.out).mono ?_); rintro ee w1 ⟨g9, mm, cc, oo, rfl, U1⟩; have HX1 := Lib.hid (HX.out.ups U1); clear U1)
  have k3b := HX1.out.slots_cell
  clear k3 hrf
  have k32 := tab_cell HX1.out.arr (k := 32 + u) (by omega) HV0.out
  go_upto_region 22 with (first
    | (go_at_call 17; refine (lkNew HX1.out.roo HPS.out _).mono ?_; rintro ee w2 ⟨b, rfl, P2, b2, U2⟩; have k3c := U2.kept k3b))
  have QB := HX1.out.beginLk HY.out hu HEM.out U2 HPS.out P2 b2
  have HQB := Lib.hid QB.2
  obtain ⟨⟨y1, g1, y2, g2⟩, ⟨y3, g3, y4, g4⟩⟩ := QB.1
  have hlt : bH < w2.heap.size := by have := HX1.out.ord; have := U2.size; omega
  have hne : ¬ bH = w2.heap.size := by omega
  have hne' : ¬ w2.heap.size = bH := by omega
  clear QB P2 U2 k32 k3b
  go_region_held3 (fun _ => True) (exact trivial) (fail)
  all_goals
    have HM := Lib.hid HQB.out.mach
    have HO := Lib.hid HQB.out.out
    have yc := HQB.out.cell
    clear y1 g1 y2 g2 y3 g3 y4 g4
    go_wp2_with (first
      | (go_at_call 19; refine (lkDone HM.out (y := false) rfl).mono ?_; rintro ee w9 ⟨rfl, rfl⟩))
    go_ret
    exact ⟨rfl, HO.out.more (by omega)⟩
set_option maxHeartbeats 4000000 in
theorem begins_lk_odd (X : Play W w l n bH D T m V o L s) (Y : ∀ u, u < 4 → (m u).live n T) (_hT : T ≤ 1000) (hu : u < 4) (em : m u = .idle) {z : Int} (z0 : 0 ≤ z) (z1 : z < 240) (pS : slotZ z < n) (pE : ¬ z.tmod 2 = 0) (hr4 : ¬ z.tmod 5 < 4) (hL : L u = []) :
    Calls Tryz.prog 49 #[.pointer (some ⟨bH, 0, none⟩), .pointer (some ⟨l.q, 0, none⟩), .pointer (some ⟨l.k, 0, none⟩), .int .i64 (u : Int), .int .i64 z] w fun e w' => e = .returned (.bool true) ∧ PlayOut W l n bH D (T + 6) w' := by
  obtain ⟨a, c, g6, r, e2, ha, hsl, hc, hg6, hr5, he, bd⟩ := nums z z0 z1
  obtain ⟨sl, hsz⟩ : ∃ sl, slotZ z = sl := ⟨_, rfl⟩
  rw [hsz] at hsl pS
  rw [he] at pE
  clear hsz
  obtain ⟨gg, hgg⟩ : ∃ gg, 1 + g6 = gg := ⟨_, rfl⟩
  obtain ⟨wa1, wa2⟩ := wr64 a (by omega)
  obtain ⟨wc1, wc2⟩ := wr64 c (by omega)
  obtain ⟨wg1, wg2⟩ := wr64 gg (by omega)
  have HPS := Lib.hid pS
  have hn4 : (n : Int) < 1000000000 := X.n_lt
  have pS1 : (sl : Int) < (n : Int) := by omega
  have pS2 : ¬ (n : Int) ≤ (sl : Int) := by omega
  have pE1 : (e2 == 0) = false := by simp [pE]
  have j0 : (0 : Int) ≤ (u : Int) := Int.natCast_nonneg _
  have j1 : (u : Int) < 4 := by omega
  have k3 := X.slots_cell
  have HX := Lib.hid X
  have HY := Lib.hid Y
  have HEM := Lib.hid em
  rw [hr5] at hr4
  have hr2 : ¬ r < 2 := by omega
  obtain ⟨A0, c0, hv0⟩ := (X.sl u hu).slice
  rw [hL] at hv0
  have HV0 := Lib.hid hv0
  clear hv0
  clear X Y em z0 z1 pS bd hn4
  go_enter Tryz.func49, Tryz.ntmps49
  have HX1 := HX
  go_upto_region 4 with fail
  have k3b := k3
  have k32 := tab_cell HX1.out.arr (k := 32 + u) (by omega) HV0.out
  go_upto_region 22 with (first
    | (go_at_call 17; refine (lkNew HX1.out.roo HPS.out _).mono ?_; rintro ee w2 ⟨b, rfl, P2, b2, U2⟩; have k3c := U2.kept k3b))
  have QB := HX1.out.beginLk HY.out hu HEM.out U2 HPS.out P2 b2
  have HQB := Lib.hid QB.2
  obtain ⟨⟨y1, g1, y2, g2⟩, ⟨y3, g3, y4, g4⟩⟩ := QB.1
  have hlt : bH < w2.heap.size := by have := HX1.out.ord; have := U2.size; omega
  have hne : ¬ bH = w2.heap.size := by omega
  have hne' : ¬ w2.heap.size = bH := by omega
  clear QB P2 U2 k32 k3b
  go_region_held3 (fun _ => True) (exact trivial) (fail)
  all_goals
    have HM := Lib.hid HQB.out.mach
    have HO := Lib.hid HQB.out.out
    have yc := HQB.out.cell
    clear y1 g1 y2 g2 y3 g3 y4 g4
    go_wp2_with (first
      | (go_at_call 19; refine (lkDone HM.out (y := false) rfl).mono ?_; rintro ee w9 ⟨rfl, rfl⟩))
    go_ret
    exact ⟨rfl, HO.out.more (by omega)⟩
set_option maxHeartbeats 4000000 in
theorem begins_lk_far (X : Play W w l n bH D T m V o L s) (Y : ∀ u, u < 4 → (m u).live n T) (_hT : T ≤ 1000) (hu : u < 4) (em : m u = .idle) {z : Int} (z0 : 0 ≤ z) (z1 : z < 240) (pS : ¬ slotZ z < n) (hr4 : ¬ z.tmod 5 < 4) (hL : L u = []) :
    Calls Tryz.prog 49 #[.pointer (some ⟨bH, 0, none⟩), .pointer (some ⟨l.q, 0, none⟩), .pointer (some ⟨l.k, 0, none⟩), .int .i64 (u : Int), .int .i64 z] w fun e w' => e = .returned (.bool true) ∧ PlayOut W l n bH D (T + 6) w' := by
  obtain ⟨a, c, g6, r, e2, ha, hsl, hc, hg6, hr5, he, bd⟩ := nums z z0 z1
  obtain ⟨sl, hsz⟩ : ∃ sl, slotZ z = sl := ⟨_, rfl⟩
  rw [hsz] at hsl pS
  clear hsz
  obtain ⟨gg, hgg⟩ : ∃ gg, 1 + g6 = gg := ⟨_, rfl⟩
  obtain ⟨wa1, wa2⟩ := wr64 a (by omega)
  obtain ⟨wc1, wc2⟩ := wr64 c (by omega)
  obtain ⟨wg1, wg2⟩ := wr64 gg (by omega)
  have HPS := Lib.hid pS
  have hn4 : (n : Int) < 1000000000 := X.n_lt
  have pS1 : ¬ (sl : Int) < (n : Int) := by omega
  have pS2 : (n : Int) ≤ (sl : Int) := by omega
  have j0 : (0 : Int) ≤ (u : Int) := Int.natCast_nonneg _
  have j1 : (u : Int) < 4 := by omega
  have k3 := X.slots_cell
  have HX := Lib.hid X
  have HY := Lib.hid Y
  have HEM := Lib.hid em
  rw [hr5] at hr4
  have hr2 : ¬ r < 2 := by omega
  obtain ⟨A0, c0, hv0⟩ := (X.sl u hu).slice
  rw [hL] at hv0
  have HV0 := Lib.hid hv0
  clear hv0
  clear X Y em z0 z1 pS bd hn4
  go_enter Tryz.func49, Tryz.ntmps49
  have HX1 := HX
  go_upto_region 4 with fail
  have k3b := k3
  have k32 := tab_cell HX1.out.arr (k := 32 + u) (by omega) HV0.out
  go_wp2_with (first
    | (go_at_call 17; refine (lkNew_no HX1.out.roo (k := (sl : Int)) (fun h => HPS.out (by omega)) _).mono ?_; rintro ee w2 ⟨rfl, rfl⟩))
  go_ret
  exact ⟨rfl, PlayOut.of HX1.out HY.out (by omega)⟩
end
end Go.Proofs.YtalglhgngedjoaaGreat

/-
  RootsPlay: slots given back, both machines in the table.
-/
namespace Go.Proofs.YtalglhgngedjoaaGreat
open Go.RowKit
open W64
set_option maxRecDepth 100000
section
variable {W w w1 w9 wA w10 w' : World} {l : Lie} {n bH D T T' u k b rb rr cap x : Nat} {m : Nat → PM} {V V' : Nat → Value} {o L : Nat → List Nat} {s s' : St} {rv : Value}
theorem Play.spare_cell (X : Play W w l n bH D T m V o L s) : w.cell? ⟨l.k, 8, none⟩ = some (.pointer (some ⟨l.qr, 0, none⟩)) := X.rw_.obj.cell (i := 8) (v := .pointer (some ⟨l.qr, 0, none⟩)) rfl
theorem Play.beginBack (X : Play W w l n bH D T m V o L s) (Y : ∀ v, v < 4 → (m v).live n T) (hu : u < 4) (em : m u = .idle) (U9 : Up w w9) (P9 : PuM w9 b l.qs n (.slice (some ⟨rr, 0, none⟩) 1 cap) (Pu.new [x])) (b9 : w.heap.size ≤ b) (r9 : w.heap.size ≤ rr) (UA : Up w9 wA) (R10 : RPuM w10 rb l.qr n rv (Pu.new [x])) (rb10 : wA.heap.size ≤ rb) (F10 : Fresh wA rv) (U10 : Up wA w10) :
    (w10.cell? ⟨bH, 12 + u, none⟩ = some (V (12 + u)) ∧ w10.frozen? ⟨bH, 12 + u, none⟩ = false ∧ (w10.setCell ⟨bH, 12 + u, none⟩ (ptr b)).cell? ⟨bH, 28 + u, none⟩ = some (V (28 + u)) ∧ (w10.setCell ⟨bH, 12 + u, none⟩ (ptr b)).frozen? ⟨bH, 28 + u, none⟩ = false) ∧
      Begun W l n bH D T (12 + u) b (fun w' => PuM w' b l.qs n (.slice (some ⟨rr, 0, none⟩) 1 cap) (Pu.new [x])) (st2 w10 bH (12 + u) (28 + u) (ptr b) (ptr rb)) := by
  have z9 := U9.size
  have zA := UA.size
  have hrr : rr < w9.heap.size := P9.at_.row.lt (by simp [Value.ownBlock])
  refine X.beginPu Y hu em ((U9.trans UA).trans U10) rfl (P9.up (UA.trans U10)) R10 ⟨b9, by omega⟩ (fun k hk => ?_) (fun k hk => ?_) (fun k h1 h2 => ?_)
  · simp [Value.ownBlock] at hk; omega
  · have := F10 k hk; omega
  · simp [Value.ownBlock] at h1
    have := F10 k h2
    omega
end
end Go.Proofs.YtalglhgngedjoaaGreat

/-
  RootsPlay: a machine more (hands.begins): slots given back.
-/
namespace Go.Proofs.YtalglhgngedjoaaGreat
open Go.RowKit
open W64
set_option maxRecDepth 100000
section
variable {W w w' : World} {l : Lie} {n bH D T u : Nat} {m : Nat → PM} {V : Nat → Value} {o L : Nat → List Nat} {s : St}
set_option maxHeartbeats 4000000 in
theorem begins_bk_root (X : Play W w l n bH D T m V o L s) (Y : ∀ u, u < 4 → (m u).live n T) (_hT : T ≤ 1000) (hu : u < 4) (em : m u = .idle) {z : Int} (z0 : 0 ≤ z) (z1 : z < 240) (pS : slotZ z < n) (pE : z.tmod 2 = 0) (hr : ¬ z.tmod 5 < 2) (hL : L u ≠ []) :
    Calls Tryz.prog 49 #[.pointer (some ⟨bH, 0, none⟩), .pointer (some ⟨l.q, 0, none⟩), .pointer (some ⟨l.k, 0, none⟩), .int .i64 (u : Int), .int .i64 z] w fun e w' => e = .returned (.bool true) ∧ PlayOut W l n bH D (T + 6) w' := by
  obtain ⟨a, c, g6, r, e2, ha, hsl, hc, hg6, hr5, he, bd⟩ := nums z z0 z1
  obtain ⟨sl, hsz⟩ : ∃ sl, slotZ z = sl := ⟨_, rfl⟩
  rw [hsz] at hsl pS
  rw [hr5] at hr
  rw [he] at pE
  clear hsz
  obtain ⟨gg, hgg⟩ : ∃ gg, 1 + g6 = gg := ⟨_, rfl⟩
  obtain ⟨wa1, wa2⟩ := wr64 a (by omega)
  obtain ⟨wc1, wc2⟩ := wr64 c (by omega)
  obtain ⟨wg1, wg2⟩ := wr64 gg (by omega)
  have HPS := Lib.hid pS
  have hn4 : (n : Int) < 1000000000 := X.n_lt
  have pS1 : (sl : Int) < (n : Int) := by omega
  have pS2 : ¬ (n : Int) ≤ (sl : Int) := by omega
  subst pE
  have j0 : (0 : Int) ≤ (u : Int) := Int.natCast_nonneg _
  have j1 : (u : Int) < 4 := by omega
  have k3 := X.slots_cell
  have HX := Lib.hid X
  have HY := Lib.hid Y
  have HEM := Lib.hid em
  obtain ⟨A0, c0, hv0⟩ := (X.sl u hu).slice
  obtain ⟨x, tl, hL⟩ : ∃ x tl, L u = x :: tl := by
    cases h : L u with
    | nil => exact absurd h hL
    | cons x tl => exact ⟨x, tl, rfl⟩
  have HLS := Lib.hid (show x < n ∧ (∀ y ∈ tl, y < n) ∧ tl.length + 1 ≤ T from ⟨X.ls u hu x (by simp [hL]), fun y hy => X.ls u hu y (by simp [hL, hy]), by have := X.ll u hu; rw [hL] at this; simpa using this⟩)
  obtain ⟨N, hN⟩ : ∃ N, (I (L u)).length = N := ⟨_, rfl⟩
  rw [hN] at hv0
  have hN1 : (0 : Int) < (N : Int) := by rw [← hN, hL]; simp [I]
  have HNN := Lib.hid (show N = tl.length + 1 by rw [← hN, hL]; simp [I])
  have HLU := Lib.hid hL
  have HV0 := Lib.hid hv0
  clear hv0 hN
  clear X Y em z0 z1 pS bd hn4
  go_enter Tryz.func49, Tryz.ntmps49
  have hrf := run_rfield
  go_upto_region 4 with (go_at_call 89; (with_reducible refine (HX.out.root HPS.out).mono ?_); rintro ee w1 ⟨g9, mm, cc, oo, rfl, U1⟩; have HX1 := Lib.hid (HX.out.ups U1); clear U1)
  have k3b := HX1.out.slots_cell
  clear k3 hrf
  have J0 := HX1.out.sl u hu
  rw [HV0.out, HLU.out] at J0
  have hcap := J0.cap
  have HJ := Lib.hid J0
  obtain ⟨ga, hA0, hd0⟩ := J0.first
  subst hA0
  have k32 := tab_cell HX1.out.arr (k := 32 + u) (by omega) HV0.out
  have HRL := Lib.hid (cutLo_rd (c := 1) J0.rd (by simp [I]) hcap)
  have hcl : ∀ w : World, (Instr.slice 22 (.slice (some ⟨ga, 0, none⟩) N c0) (some (.int .i64 1)) none none).run Tryz.prog w = .ok (cutLo (some ⟨ga, 0, none⟩) 1 N c0) w := run_cutLo (some ⟨ga, 0, none⟩) N c0 1 (by have := HNN.out; omega)
  obtain ⟨AL, hAL⟩ := cutLo_is (some ⟨ga, 0, none⟩) 1 N c0
  rw [hAL] at hcl HRL
  have hN2 : (1 : Int) ≤ (N : Int) := by omega
  have hc2 : (N : Int) ≤ (c0 : Int) := by omega
  clear J0 hAL
  go_upto_region 9 with fail
  go_region_law (refine step_app (v := .slice none 0 0) (by rfl) _ _ (by rfl) (by rfl) (by rfl) (Ints.nil _) (HRL.out.up (up_drew _)) (by have := HLS.out.2.2; have : ((I (x :: tl)).drop 1).length = tl.length := by simp [I]
                                                                                                                                          simp only [this, List.length_nil]; omega) ?_; intro v7 w7 J7 G7 A7; obtain ⟨A7v, N7, c7, rfl⟩ := shapeI J7; have QT := HX1.out.tail hu (up_drew _) (L' := tl) J7 G7 A7 HLS.out.2.1 (by have := HLS.out.2.2; omega); have HX2 := Lib.hid QT.2; obtain ⟨y1, g1⟩ := QT.1; clear QT J7 G7 A7)
  all_goals
    generalize w7.setCell ⟨bH, 32 + u, none⟩ (.slice A7v N7 c7) = w8 at *
    clear y1 g1 hcl hd0 k32
    go_upto_region 11 with (go_at_call 26; refine (rtBack HX2.out.roo HLS.out.1).mono ?_; rintro ee w9 ⟨b, rr, cap, rfl, P9, b9, r9, U9⟩)
    have k8 := (HX2.out.ups U9).spare_cell
    have k8a := (Up.alloc w9 (.cells #[.int .i64 (x : Int)] 3)).kept k8
    have HP9 := Lib.hid P9
    have HU9 := Lib.hid U9
    have HB9 := Lib.hid (And.intro b9 r9)
    clear P9 U9 b9 r9
    go_region_law (go_simp; go_at_call 91; refine (rpuNew (l := [x]) (n := n) ((rd_one w9 (x : Int)).up (up_drew _)) (by simp) (by intro y hy; simp at hy; rw [hy]; exact HLS.out.1) (by simp)).mono ?_; rintro ee w10 ⟨rb, rv, rfl, R10, rb10, F10, U10⟩; have QB := HX2.out.beginBack (fun v hv => (HY.out v hv).mono (Nat.le_succ _)) hu HEM.out HU9.out HP9.out HB9.out.1 HB9.out.2 ((Up.alloc w9 _).trans (up_drew _)) R10 rb10 F10 U10; have HQB := Lib.hid QB.2; obtain ⟨y1, g1, y2, g2⟩ := QB.1; clear QB R10 rb10 F10 U10; go_wp2_with fail)
    all_goals
      have HM := Lib.hid HQB.out.mach
      clear y1 g1 y2 g2 k8 k8a
      go_wp2_with (first
        | (go_at_call 48; refine (pushDone_to HM.out (c := false) rfl).mono ?_; rintro ee w11 ⟨rfl, rfl⟩))
      go_ret
      exact ⟨rfl, HQB.out.out.more (by omega)⟩
set_option maxHeartbeats 4000000 in
theorem begins_bk_odd (X : Play W w l n bH D T m V o L s) (Y : ∀ u, u < 4 → (m u).live n T) (_hT : T ≤ 1000) (hu : u < 4) (em : m u = .idle) {z : Int} (z0 : 0 ≤ z) (z1 : z < 240) (pS : slotZ z < n) (pE : ¬ z.tmod 2 = 0) (hr : ¬ z.tmod 5 < 2) (hL : L u ≠ []) :
    Calls Tryz.prog 49 #[.pointer (some ⟨bH, 0, none⟩), .pointer (some ⟨l.q, 0, none⟩), .pointer (some ⟨l.k, 0, none⟩), .int .i64 (u : Int), .int .i64 z] w fun e w' => e = .returned (.bool true) ∧ PlayOut W l n bH D (T + 6) w' := by
  obtain ⟨a, c, g6, r, e2, ha, hsl, hc, hg6, hr5, he, bd⟩ := nums z z0 z1
  obtain ⟨sl, hsz⟩ : ∃ sl, slotZ z = sl := ⟨_, rfl⟩
  rw [hsz] at hsl pS
  rw [hr5] at hr
  rw [he] at pE
  clear hsz
  obtain ⟨gg, hgg⟩ : ∃ gg, 1 + g6 = gg := ⟨_, rfl⟩
  obtain ⟨wa1, wa2⟩ := wr64 a (by omega)
  obtain ⟨wc1, wc2⟩ := wr64 c (by omega)
  obtain ⟨wg1, wg2⟩ := wr64 gg (by omega)
  have HPS := Lib.hid pS
  have hn4 : (n : Int) < 1000000000 := X.n_lt
  have pS1 : (sl : Int) < (n : Int) := by omega
  have pS2 : ¬ (n : Int) ≤ (sl : Int) := by omega
  have pE1 : (e2 == 0) = false := by simp [pE]
  have j0 : (0 : Int) ≤ (u : Int) := Int.natCast_nonneg _
  have j1 : (u : Int) < 4 := by omega
  have k3 := X.slots_cell
  have HX := Lib.hid X
  have HY := Lib.hid Y
  have HEM := Lib.hid em
  obtain ⟨A0, c0, hv0⟩ := (X.sl u hu).slice
  obtain ⟨x, tl, hL⟩ : ∃ x tl, L u = x :: tl := by
    cases h : L u with
    | nil => exact absurd h hL
    | cons x tl => exact ⟨x, tl, rfl⟩
  have HLS := Lib.hid (show x < n ∧ (∀ y ∈ tl, y < n) ∧ tl.length + 1 ≤ T from ⟨X.ls u hu x (by simp [hL]), fun y hy => X.ls u hu y (by simp [hL, hy]), by have := X.ll u hu; rw [hL] at this; simpa using this⟩)
  obtain ⟨N, hN⟩ : ∃ N, (I (L u)).length = N := ⟨_, rfl⟩
  rw [hN] at hv0
  have hN1 : (0 : Int) < (N : Int) := by rw [← hN, hL]; simp [I]
  have HNN := Lib.hid (show N = tl.length + 1 by rw [← hN, hL]; simp [I])
  have HLU := Lib.hid hL
  have HV0 := Lib.hid hv0
  clear hv0 hN
  clear X Y em z0 z1 pS bd hn4
  go_enter Tryz.func49, Tryz.ntmps49
  have HX1 := HX
  go_upto_region 4 with fail
  have k3b := k3
  have J0 := HX1.out.sl u hu
  rw [HV0.out, HLU.out] at J0
  have hcap := J0.cap
  have HJ := Lib.hid J0
  obtain ⟨ga, hA0, hd0⟩ := J0.first
  subst hA0
  have k32 := tab_cell HX1.out.arr (k := 32 + u) (by omega) HV0.out
  have HRL := Lib.hid (cutLo_rd (c := 1) J0.rd (by simp [I]) hcap)
  have hcl : ∀ w : World, (Instr.slice 22 (.slice (some ⟨ga, 0, none⟩) N c0) (some (.int .i64 1)) none none).run Tryz.prog w = .ok (cutLo (some ⟨ga, 0, none⟩) 1 N c0) w := run_cutLo (some ⟨ga, 0, none⟩) N c0 1 (by have := HNN.out; omega)
  obtain ⟨AL, hAL⟩ := cutLo_is (some ⟨ga, 0, none⟩) 1 N c0
  rw [hAL] at hcl HRL
  have hN2 : (1 : Int) ≤ (N : Int) := by omega
  have hc2 : (N : Int) ≤ (c0 : Int) := by omega
  clear J0 hAL
  go_upto_region 9 with fail
  go_region_law (refine step_app (v := .slice none 0 0) (by rfl) _ _ (by rfl) (by rfl) (by rfl) (Ints.nil _) (HRL.out.up (up_drew _)) (by have := HLS.out.2.2; have : ((I (x :: tl)).drop 1).length = tl.length := by simp [I]
                                                                                                                                          simp only [this, List.length_nil]; omega) ?_; intro v7 w7 J7 G7 A7; obtain ⟨A7v, N7, c7, rfl⟩ := shapeI J7; have QT := HX1.out.tail hu (up_drew _) (L' := tl) J7 G7 A7 HLS.out.2.1 (by have := HLS.out.2.2; omega); have HX2 := Lib.hid QT.2; obtain ⟨y1, g1⟩ := QT.1; clear QT J7 G7 A7)
  all_goals
    generalize w7.setCell ⟨bH, 32 + u, none⟩ (.slice A7v N7 c7) = w8 at *
    clear y1 g1 hcl hd0 k32
    go_upto_region 11 with (go_at_call 26; refine (rtBack HX2.out.roo HLS.out.1).mono ?_; rintro ee w9 ⟨b, rr, cap, rfl, P9, b9, r9, U9⟩)
    have k8 := (HX2.out.ups U9).spare_cell
    have k8a := (Up.alloc w9 (.cells #[.int .i64 (x : Int)] 3)).kept k8
    have HP9 := Lib.hid P9
    have HU9 := Lib.hid U9
    have HB9 := Lib.hid (And.intro b9 r9)
    clear P9 U9 b9 r9
    go_region_law (go_simp; go_at_call 91; refine (rpuNew (l := [x]) (n := n) ((rd_one w9 (x : Int)).up (up_drew _)) (by simp) (by intro y hy; simp at hy; rw [hy]; exact HLS.out.1) (by simp)).mono ?_; rintro ee w10 ⟨rb, rv, rfl, R10, rb10, F10, U10⟩; have QB := HX2.out.beginBack (fun v hv => (HY.out v hv).mono (Nat.le_succ _)) hu HEM.out HU9.out HP9.out HB9.out.1 HB9.out.2 ((Up.alloc w9 _).trans (up_drew _)) R10 rb10 F10 U10; have HQB := Lib.hid QB.2; obtain ⟨y1, g1, y2, g2⟩ := QB.1; clear QB R10 rb10 F10 U10; go_wp2_with fail)
    all_goals
      have HM := Lib.hid HQB.out.mach
      clear y1 g1 y2 g2 k8 k8a
      go_wp2_with (first
        | (go_at_call 48; refine (pushDone_to HM.out (c := false) rfl).mono ?_; rintro ee w11 ⟨rfl, rfl⟩))
      go_ret
      exact ⟨rfl, HQB.out.out.more (by omega)⟩
set_option maxHeartbeats 4000000 in
theorem begins_bk_far (X : Play W w l n bH D T m V o L s) (Y : ∀ u, u < 4 → (m u).live n T) (_hT : T ≤ 1000) (hu : u < 4) (em : m u = .idle) {z : Int} (z0 : 0 ≤ z) (z1 : z < 240) (pS : ¬ slotZ z < n) (hr : ¬ z.tmod 5 < 2) (hL : L u ≠ []) :
    Calls Tryz.prog 49 #[.pointer (some ⟨bH, 0, none⟩), .pointer (some ⟨l.q, 0, none⟩), .pointer (some ⟨l.k, 0, none⟩), .int .i64 (u : Int), .int .i64 z] w fun e w' => e = .returned (.bool true) ∧ PlayOut W l n bH D (T + 6) w' := by
  obtain ⟨a, c, g6, r, e2, ha, hsl, hc, hg6, hr5, he, bd⟩ := nums z z0 z1
  obtain ⟨sl, hsz⟩ : ∃ sl, slotZ z = sl := ⟨_, rfl⟩
  rw [hsz] at hsl pS
  rw [hr5] at hr
  clear hsz
  obtain ⟨gg, hgg⟩ : ∃ gg, 1 + g6 = gg := ⟨_, rfl⟩
  obtain ⟨wa1, wa2⟩ := wr64 a (by omega)
  obtain ⟨wc1, wc2⟩ := wr64 c (by omega)
  obtain ⟨wg1, wg2⟩ := wr64 gg (by omega)
  have HPS := Lib.hid pS
  have hn4 : (n : Int) < 1000000000 := X.n_lt
  have pS1 : ¬ (sl : Int) < (n : Int) := by omega
  have pS2 : (n : Int) ≤ (sl : Int) := by omega
  have j0 : (0 : Int) ≤ (u : Int) := Int.natCast_nonneg _
  have j1 : (u : Int) < 4 := by omega
  have k3 := X.slots_cell
  have HX := Lib.hid X
  have HY := Lib.hid Y
  have HEM := Lib.hid em
  obtain ⟨A0, c0, hv0⟩ := (X.sl u hu).slice
  obtain ⟨x, tl, hL⟩ : ∃ x tl, L u = x :: tl := by
    cases h : L u with
    | nil => exact absurd h hL
    | cons x tl => exact ⟨x, tl, rfl⟩
  have HLS := Lib.hid (show x < n ∧ (∀ y ∈ tl, y < n) ∧ tl.length + 1 ≤ T from ⟨X.ls u hu x (by simp [hL]), fun y hy => X.ls u hu y (by simp [hL, hy]), by have := X.ll u hu; rw [hL] at this; simpa using this⟩)
  obtain ⟨N, hN⟩ : ∃ N, (I (L u)).length = N := ⟨_, rfl⟩
  rw [hN] at hv0
  have hN1 : (0 : Int) < (N : Int) := by rw [← hN, hL]; simp [I]
  have HNN := Lib.hid (show N = tl.length + 1 by rw [← hN, hL]; simp [I])
  have HLU := Lib.hid hL
  have HV0 := Lib.hid hv0
  clear hv0 hN
  clear X Y em z0 z1 pS bd hn4
  go_enter Tryz.func49, Tryz.ntmps49
  have HX1 := HX
  go_upto_region 4 with fail
  have k3b := k3
  have J0 := HX1.out.sl u hu
  rw [HV0.out, HLU.out] at J0
  have hcap := J0.cap
  have HJ := Lib.hid J0
  obtain ⟨ga, hA0, hd0⟩ := J0.first
  subst hA0
  have k32 := tab_cell HX1.out.arr (k := 32 + u) (by omega) HV0.out
  have HRL := Lib.hid (cutLo_rd (c := 1) J0.rd (by simp [I]) hcap)
  have hcl : ∀ w : World, (Instr.slice 22 (.slice (some ⟨ga, 0, none⟩) N c0) (some (.int .i64 1)) none none).run Tryz.prog w = .ok (cutLo (some ⟨ga, 0, none⟩) 1 N c0) w := run_cutLo (some ⟨ga, 0, none⟩) N c0 1 (by have := HNN.out; omega)
  obtain ⟨AL, hAL⟩ := cutLo_is (some ⟨ga, 0, none⟩) 1 N c0
  rw [hAL] at hcl HRL
  have hN2 : (1 : Int) ≤ (N : Int) := by omega
  have hc2 : (N : Int) ≤ (c0 : Int) := by omega
  clear J0 hAL
  go_upto_region 9 with fail
  go_region_law (refine step_app (v := .slice none 0 0) (by rfl) _ _ (by rfl) (by rfl) (by rfl) (Ints.nil _) (HRL.out.up (up_drew _)) (by have := HLS.out.2.2; have : ((I (x :: tl)).drop 1).length = tl.length := by simp [I]
                                                                                                                                          simp only [this, List.length_nil]; omega) ?_; intro v7 w7 J7 G7 A7; obtain ⟨A7v, N7, c7, rfl⟩ := shapeI J7; have QT := HX1.out.tail hu (up_drew _) (L' := tl) J7 G7 A7 HLS.out.2.1 (by have := HLS.out.2.2; omega); have HX2 := Lib.hid QT.2; obtain ⟨y1, g1⟩ := QT.1; clear QT J7 G7 A7)
  all_goals
    generalize w7.setCell ⟨bH, 32 + u, none⟩ (.slice A7v N7 c7) = w8 at *
    clear y1 g1 hcl hd0 k32
    go_upto_region 11 with (go_at_call 26; refine (rtBack HX2.out.roo HLS.out.1).mono ?_; rintro ee w9 ⟨b, rr, cap, rfl, P9, b9, r9, U9⟩)
    have k8 := (HX2.out.ups U9).spare_cell
    have k8a := (Up.alloc w9 (.cells #[.int .i64 (x : Int)] 3)).kept k8
    have HP9 := Lib.hid P9
    have HU9 := Lib.hid U9
    have HB9 := Lib.hid (And.intro b9 r9)
    clear P9 U9 b9 r9
    go_region_law (go_simp; go_at_call 91; refine (rpuNew (l := [x]) (n := n) ((rd_one w9 (x : Int)).up (up_drew _)) (by simp) (by intro y hy; simp at hy; rw [hy]; exact HLS.out.1) (by simp)).mono ?_; rintro ee w10 ⟨rb, rv, rfl, R10, rb10, F10, U10⟩; have QB := HX2.out.beginBack (fun v hv => (HY.out v hv).mono (Nat.le_succ _)) hu HEM.out HU9.out HP9.out HB9.out.1 HB9.out.2 ((Up.alloc w9 _).trans (up_drew _)) R10 rb10 F10 U10; have HQB := Lib.hid QB.2; obtain ⟨y1, g1, y2, g2⟩ := QB.1; clear QB R10 rb10 F10 U10; go_wp2_with fail)
    all_goals
      have HM := Lib.hid HQB.out.mach
      clear y1 g1 y2 g2 k8 k8a
      go_wp2_with (first
        | (go_at_call 48; refine (pushDone_to HM.out (c := false) rfl).mono ?_; rintro ee w11 ⟨rfl, rfl⟩))
      go_ret
      exact ⟨rfl, HQB.out.out.more (by omega)⟩
end
end Go.Proofs.YtalglhgngedjoaaGreat
