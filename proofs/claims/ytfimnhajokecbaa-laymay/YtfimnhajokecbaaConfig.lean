/-
  The contract of rundalemake.Config: a small configuration by a number.
-/
import Derived.Test.YtfimnhajokecbaaLayConf
import Derived.OwnWalk
import Derived.Test.YtfimnhajokecbaaQuietUp
namespace Go.Proofs.Ytfimnhajokecbaa
open Go.RowKit

theorem number_is {v n k : Int} (e : v % n = k) (h : 0 < n) (hn : n < 9223372036854775808) (w : World) :
    Calls Try.prog 25 #[.int .i64 v, .int .i64 n] w fun e w' => e = .returned (.int .i64 k) ∧ w = w' := e ▸ number_any v n w h hn

set_option maxHeartbeats 1000000 in
theorem seqN_any (b g : Nat) (k : Nat) (n x : Int) (w : World) (hk : k < 6) (n0 : 0 < n) (n1 : n < 9223372036854775808)
    (hL : w.cell? ⟨b, 0, none⟩ = some (.slice (some ⟨g, 0, none⟩) 6 6)) (hA : w.cell? ⟨b, 1, none⟩ = some (.int .i64 k)) (hx : w.cell? ⟨g, k, none⟩ = some (.int .i64 x)) (hf : w.frozen? ⟨b, 1, none⟩ = false) :
    Calls Try.prog 36 #[.pointer (some ⟨b, 0, none⟩), .int .i64 n] w fun e w' => e = .returned (.int .i64 (x % n)) ∧ w' = (w.setCell ⟨b, 1, none⟩ (.int .i64 (k + 1))).drew.drew := by
  have k0 : (0 : Int) ≤ (k : Int) := Int.natCast_nonneg _
  have k1 : (k : Int) < 6 := by omega
  go_enter Try.func36, Try.ntmps36
  go_wp2
  refine wp_region_one (by kernel_rfl) (by kernel_rfl) ?_
  repeat (go_big_quiet_step (fail))
  refine wpQuiet_nil ?_
  rintro _ rfl
  go_wp2
  refine wp_region_one (by kernel_rfl) (by kernel_rfl) ?_
  repeat (go_big_quiet_step (fail))
  refine wpQuiet_nil ?_
  rintro _ rfl
  go_wp2_with (go_at_call 25; refine (number_any _ _ _ n0 n1).mono ?_; rintro e w' ⟨rfl, rfl⟩)
  go_ret
  exact ⟨rfl, rfl⟩
theorem seqN_at {b g : Nat} (k : Nat) (i j : Int) {n x r : Int} {w : World} (hi : (k : Int) = i) (hj : i + 1 = j) (hr : x % n = r) (hk : k < 6) (n0 : 0 < n) (n1 : n < 9223372036854775808)
    (hL : w.cell? ⟨b, 0, none⟩ = some (.slice (some ⟨g, 0, none⟩) 6 6)) (hA : w.cell? ⟨b, 1, none⟩ = some (.int .i64 i)) (hx : w.cell? ⟨g, k, none⟩ = some (.int .i64 x)) (hf : w.frozen? ⟨b, 1, none⟩ = false) :
    Calls Try.prog 36 #[.pointer (some ⟨b, 0, none⟩), .int .i64 n] w fun e w' => e = .returned (.int .i64 r) ∧ w' = (w.setCell ⟨b, 1, none⟩ (.int .i64 j)).drew.drew := by
  subst hi hj hr
  exact seqN_any b g k n x w hk n0 n1 hL hA hx hf

/-- The memory of Config: the result's variable, the numbers, the sequence that stands at i. -/
def W3 (w : World) (x0 x1 x2 x3 x4 x5 i : Int) : World :=
  ((w.alloc (.cells #[.int .i64 0, .int .i64 0, .int .i64 0, .int .i64 0, .int .i64 0, .int .i64 0] 23)).alloc (.cells #[.int .i64 x0, .int .i64 x1, .int .i64 x2, .int .i64 x3, .int .i64 x4, .int .i64 x5] 3)).alloc
    (.cells #[.slice (some ⟨w.heap.size + 1, 0, none⟩) 6 6, .int .i64 i] 45)
theorem W3_size (w : World) (o p : Obj) : ((w.alloc o).alloc p).heap.size = w.heap.size + 1 + 1 := by simp
theorem W3_set (w : World) (x0 x1 x2 x3 x4 x5 i j : Int) (d : Nat) : ((W3 w x0 x1 x2 x3 x4 x5 i).drewN d).setCell ⟨w.heap.size + 1 + 1, 1, none⟩ (.int .i64 j) = (W3 w x0 x1 x2 x3 x4 x5 j).drewN d := by
  have e : ((W3 w x0 x1 x2 x3 x4 x5 i)).setCell ⟨w.heap.size + 1 + 1, 1, none⟩ (.int .i64 j) = W3 w x0 x1 x2 x3 x4 x5 j := by
    unfold W3
    rw [World.setCell_alloc_at _ _ _ _ _ (W3_size _ _ _).symm]
    simp
  rw [← e]; rfl
theorem seqN_w (w : World) (x0 x1 x2 x3 x4 x5 : Int) (k : Nat) (i j x : Int) {n r : Int} (d : Nat) (hi : (k : Int) = i) (hj : i + 1 = j) (hx : #[Value.int .i64 x0, .int .i64 x1, .int .i64 x2, .int .i64 x3, .int .i64 x4, .int .i64 x5][k]? = some (.int .i64 x)) (hr : x % n = r) (hk : k < 6) (n0 : 0 < n) (n1 : n < 9223372036854775808) :
    Calls Try.prog 36 #[.pointer (some ⟨w.heap.size + 1 + 1, 0, none⟩), .int .i64 n] ((W3 w x0 x1 x2 x3 x4 x5 i).drewN d) fun e w' => e = .returned (.int .i64 r) ∧ w' = (W3 w x0 x1 x2 x3 x4 x5 j).drewN (d + 1 + 1) := by
  refine (seqN_at (b := w.heap.size + 1 + 1) (g := w.heap.size + 1) k i j (x := x) hi hj hr hk n0 n1 ?_ ?_ ?_ ?_).mono ?_
  · rw [World.cell?_drewN]; unfold W3
    rw [World.cell?_alloc_at _ _ _ _ (W3_size _ _ _).symm]; rfl
  · rw [World.cell?_drewN]; unfold W3
    rw [World.cell?_alloc_at _ _ _ _ (W3_size _ _ _).symm]; rfl
  · rw [World.cell?_drewN]; unfold W3
    rw [World.cell?_alloc_past _ _ _ (by simp), World.cell?_alloc_at _ _ _ _ (by simp)]
    exact hx
  · rw [World.frozen?_drewN]; unfold W3
    rw [World.frozen?_alloc_at _ _ _ _ (W3_size _ _ _).symm]
  · rintro e w' ⟨rfl, rfl⟩
    rw [W3_set]
    exact ⟨rfl, rfl⟩
theorem seqN_0 (w : World) (x0 x1 x2 x3 x4 x5 : Int) {n r : Int} (hr : x0 % n = r) (n0 : 0 < n) (n1 : n < 9223372036854775808) :
    Calls Try.prog 36 #[.pointer (some ⟨w.heap.size + 1 + 1, 0, none⟩), .int .i64 n]
      (((w.alloc (.cells #[.int .i64 0, .int .i64 0, .int .i64 0, .int .i64 0, .int .i64 0, .int .i64 0] 23)).alloc (.cells #[.int .i64 x0, .int .i64 x1, .int .i64 x2, .int .i64 x3, .int .i64 x4, .int .i64 x5] 3)).alloc
        (.cells #[.slice (some ⟨w.heap.size + 1, 0, none⟩) 6 6, .int .i64 0] 45))
      fun e w' => e = .returned (.int .i64 r) ∧ w' = (W3 w x0 x1 x2 x3 x4 x5 1).drewN 2 :=
  seqN_w w x0 x1 x2 x3 x4 x5 0 0 1 x0 0 rfl rfl rfl hr (by decide) n0 n1
theorem seqN_1 (w : World) (x0 x1 x2 x3 x4 x5 : Int) {n r : Int} (hr : x1 % n = r) (n0 : 0 < n) (n1 : n < 9223372036854775808) :
    Calls Try.prog 36 #[.pointer (some ⟨w.heap.size + 1 + 1, 0, none⟩), .int .i64 n] ((W3 w x0 x1 x2 x3 x4 x5 1).drewN 2)
      fun e w' => e = .returned (.int .i64 r) ∧ w' = (W3 w x0 x1 x2 x3 x4 x5 2).drewN 4 :=
  seqN_w w x0 x1 x2 x3 x4 x5 1 1 2 x1 2 rfl rfl rfl hr (by decide) n0 n1
theorem seqN_2 (w : World) (x0 x1 x2 x3 x4 x5 : Int) {n r : Int} (hr : x2 % n = r) (n0 : 0 < n) (n1 : n < 9223372036854775808) :
    Calls Try.prog 36 #[.pointer (some ⟨w.heap.size + 1 + 1, 0, none⟩), .int .i64 n] ((W3 w x0 x1 x2 x3 x4 x5 2).drewN 4)
      fun e w' => e = .returned (.int .i64 r) ∧ w' = (W3 w x0 x1 x2 x3 x4 x5 3).drewN 6 :=
  seqN_w w x0 x1 x2 x3 x4 x5 2 2 3 x2 4 rfl rfl rfl hr (by decide) n0 n1
theorem seqN_3 (w : World) (x0 x1 x2 x3 x4 x5 : Int) {n r : Int} (hr : x3 % n = r) (n0 : 0 < n) (n1 : n < 9223372036854775808) :
    Calls Try.prog 36 #[.pointer (some ⟨w.heap.size + 1 + 1, 0, none⟩), .int .i64 n] ((W3 w x0 x1 x2 x3 x4 x5 3).drewN 6)
      fun e w' => e = .returned (.int .i64 r) ∧ w' = (W3 w x0 x1 x2 x3 x4 x5 4).drewN 8 :=
  seqN_w w x0 x1 x2 x3 x4 x5 3 3 4 x3 6 rfl rfl rfl hr (by decide) n0 n1
theorem seqN_4 (w : World) (x0 x1 x2 x3 x4 x5 : Int) {n r : Int} (hr : x4 % n = r) (n0 : 0 < n) (n1 : n < 9223372036854775808) :
    Calls Try.prog 36 #[.pointer (some ⟨w.heap.size + 1 + 1, 0, none⟩), .int .i64 n] ((W3 w x0 x1 x2 x3 x4 x5 4).drewN 8)
      fun e w' => e = .returned (.int .i64 r) ∧ w' = (W3 w x0 x1 x2 x3 x4 x5 5).drewN 10 :=
  seqN_w w x0 x1 x2 x3 x4 x5 4 4 5 x4 8 rfl rfl rfl hr (by decide) n0 n1
theorem seqN_5 (w : World) (x0 x1 x2 x3 x4 x5 : Int) {n r : Int} (hr : x5 % n = r) (n0 : 0 < n) (n1 : n < 9223372036854775808) :
    Calls Try.prog 36 #[.pointer (some ⟨w.heap.size + 1 + 1, 0, none⟩), .int .i64 n] ((W3 w x0 x1 x2 x3 x4 x5 5).drewN 10)
      fun e w' => e = .returned (.int .i64 r) ∧ w' = (((w.alloc (.cells #[.int .i64 0, .int .i64 0, .int .i64 0, .int .i64 0, .int .i64 0, .int .i64 0] 23)).alloc (.cells #[.int .i64 x0, .int .i64 x1, .int .i64 x2, .int .i64 x3, .int .i64 x4, .int .i64 x5] 3)).alloc
        (.cells #[.slice (some ⟨w.heap.size + 1, 0, none⟩) 6 6, .int .i64 6] 45)).drewN 12 :=
  seqN_w w x0 x1 x2 x3 x4 x5 5 5 6 x5 10 rfl rfl rfl hr (by decide) n0 n1

/-- A configuration as Config makes them. -/
def Cf.Small (c : Cf) : Prop := (1 ≤ c.wk ∧ c.wk ≤ 4) ∧ (1 ≤ c.ch ∧ c.ch ≤ 8) ∧ (c.wo = 8 ∨ c.wo = 16) ∧ (1 ≤ c.sl ∧ c.sl ≤ 4) ∧ (0 ≤ c.ca ∧ c.ca ≤ 3) ∧ (1 ≤ c.ba ∧ c.ba ≤ 3)
theorem Cf.Small.may {c : Cf} (h : c.Small) : mayB c = true := by
  obtain ⟨_, _, _, _, _, _⟩ := h
  refine mayB_iff.2 ⟨?_, ?_, ?_, ?_, ?_, ?_⟩ <;> omega
theorem emod_letter (v n : Int) (h : 0 < n) : ∃ x, v % n = x ∧ x % n = x ∧ 0 ≤ x ∧ x < n :=
  ⟨_, rfl, Int.emod_emod_of_dvd v (Int.dvd_refl n), Int.emod_nonneg _ (by omega), Int.emod_lt_of_pos _ h⟩

set_option maxHeartbeats 2000000 in
theorem config_any (v : Int) (w : World) :
    Calls Try.prog 24 #[.int .i64 v] w fun e w' => ∃ c : Cf, e = .returned c.v ∧ c.Small ∧ Up w w' := by
  obtain ⟨x0, f0, g0, l0, u0⟩ := emod_letter v 4 (by decide)
  obtain ⟨x1, f1, g1, l1, u1⟩ := emod_letter (wrap64 (v.tdiv 4)) 8 (by decide)
  obtain ⟨x2, f2, g2, l2, u2⟩ := emod_letter (wrap64 (v.tdiv 32)) 2 (by decide)
  obtain ⟨x3, f3, g3, l3, u3⟩ := emod_letter (wrap64 (v.tdiv 64)) 4 (by decide)
  obtain ⟨x4, f4, g4, l4, u4⟩ := emod_letter (wrap64 (v.tdiv 256)) 4 (by decide)
  obtain ⟨x5, f5, g5, l5, u5⟩ := emod_letter (wrap64 (v.tdiv 1024)) 3 (by decide)
  have F0 := Lib.hid f0
  have F1 := Lib.hid f1
  have F2 := Lib.hid f2
  have F3 := Lib.hid f3
  have F4 := Lib.hid f4
  have F5 := Lib.hid f5
  have G0 := Lib.hid g0
  have G1 := Lib.hid g1
  have G2 := Lib.hid g2
  have G3 := Lib.hid g3
  have G4 := Lib.hid g4
  have G5 := Lib.hid g5
  clear f0 f1 f2 f3 f4 f5 g0 g1 g2 g3 g4 g5
  have sd : ∀ (w : World) (n : Nat) (a : Addr) (v : Value), (w.drewN n).setCell a v = (w.setCell a v).drewN n := fun _ _ _ _ => rfl
  go_enter Try.func24, Try.ntmps24
  go_wp2_with (first
    | (go_at_call 25; (with_reducible refine (number_is F0.out (by decide) (by decide) _).mono ?_); rintro e w' ⟨rfl, rfl⟩)
    | (go_at_call 25; (with_reducible refine (number_is F1.out (by decide) (by decide) _).mono ?_); rintro e w' ⟨rfl, rfl⟩)
    | (go_at_call 25; (with_reducible refine (number_is F2.out (by decide) (by decide) _).mono ?_); rintro e w' ⟨rfl, rfl⟩)
    | (go_at_call 25; (with_reducible refine (number_is F3.out (by decide) (by decide) _).mono ?_); rintro e w' ⟨rfl, rfl⟩)
    | (go_at_call 25; (with_reducible refine (number_is F4.out (by decide) (by decide) _).mono ?_); rintro e w' ⟨rfl, rfl⟩)
    | (go_at_call 25; (with_reducible refine (number_is F5.out (by decide) (by decide) _).mono ?_); rintro e w' ⟨rfl, rfl⟩)
    | (go_at_call 36; (with_reducible refine (seqN_1 w x0 x1 x2 x3 x4 x5 G1.out (by decide) (by decide)).mono ?_); rintro e w' ⟨rfl, rfl⟩)
    | (go_at_call 36; (with_reducible refine (seqN_2 w x0 x1 x2 x3 x4 x5 G2.out (by decide) (by decide)).mono ?_); rintro e w' ⟨rfl, rfl⟩)
    | (go_at_call 36; (with_reducible refine (seqN_3 w x0 x1 x2 x3 x4 x5 G3.out (by decide) (by decide)).mono ?_); rintro e w' ⟨rfl, rfl⟩)
    | (go_at_call 36; (with_reducible refine (seqN_4 w x0 x1 x2 x3 x4 x5 G4.out (by decide) (by decide)).mono ?_); rintro e w' ⟨rfl, rfl⟩)
    | (go_at_call 36; (with_reducible refine (seqN_5 w x0 x1 x2 x3 x4 x5 G5.out (by decide) (by decide)).mono ?_); rintro e w' ⟨rfl, rfl⟩)
    | (go_at_call 36; (with_reducible refine (seqN_0 w x0 x1 x2 x3 x4 x5 G0.out (by decide) (by decide)).mono ?_); rintro e w' ⟨rfl, rfl⟩))
  refine bodyPost_ret (v := (⟨1 + x0, 1 + x1, 8 + 8 * x2, 1 + x3, x4, 1 + x5⟩ : Cf).v) (by simp [results, Try.results24, go_sem]) rfl ⟨⟨1 + x0, 1 + x1, 8 + 8 * x2, 1 + x3, x4, 1 + x5⟩, rfl, ?_, ?_⟩
  · unfold Cf.Small
    dsimp only
    omega
  · exact (((Up.alloc _ _).then_alloc _).then_alloc _).then_drewN _
end Go.Proofs.Ytfimnhajokecbaa
