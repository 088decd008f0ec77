/-
  The contract of the statement's own 'cell'.
-/
import Derived.Test.YtfimnhajokecbaaLayLaws
import Derived.Test.YtfimnhajokecbaaConfig
import Derived.Test.YtfimnhajokecbaaLayApartMath
namespace Go.Proofs.Ytfimnhajokecbaa
open Go.RowKit

abbrev arrV (a b d : Int) : Value := .agg #[.int .i64 a, .int .i64 b, .int .i64 d]
abbrev arrBox (a b d : Int) : Obj := .cells #[.int .i64 a, .int .i64 b, .int .i64 d] 36

set_option maxHeartbeats 4000000 in
theorem cell_any (c : Cf) (hm : mayB c = true) (a b d : Int) (w : World) :
    Calls Try.prog 26 #[c.v, arrV a b d] w fun e w' => e = .returned (.int .i64 (cellN c a b d)) ∧ Up w w' := by
  obtain ⟨⟨k0, k1⟩, ⟨c0, c1⟩, ⟨o0, o1⟩, ⟨s0, s1⟩, _⟩ := may_small hm
  have V := Up.refl ((w.alloc c.box).alloc (arrBox a b d))
  have Z : Up w ((w.alloc c.box).alloc (arrBox a b d)) := (Up.alloc _ _).then_alloc _
  obtain ⟨g0, g1, g2, g3, g4, g5⟩ := (c.at_new w).up (Up.alloc _ (arrBox a b d))
  have y0 : ((w.alloc c.box).alloc (arrBox a b d)).cell? ⟨w.heap.size + 1, 0, none⟩ = some (.int .i64 a) := cell_new (by simp) rfl
  have y1 : ((w.alloc c.box).alloc (arrBox a b d)).cell? ⟨w.heap.size + 1, 1, none⟩ = some (.int .i64 b) := cell_new (by simp) rfl
  have y2 : ((w.alloc c.box).alloc (arrBox a b d)).cell? ⟨w.heap.size + 1, 2, none⟩ = some (.int .i64 d) := cell_new (by simp) rfl
  have h0 := cell_class g0
  have h1 := cell_class g1
  have h2 := cell_class g2
  have h3 := cell_class g3
  have h4 := cell_class g4
  have h5 := cell_class g5
  have z0 := cell_class y0
  have z1 := cell_class y1
  have z2 := cell_class y2
  clear g0 g1 g2 g3 g4 g5 y0 y1 y2 hm
  rcases cell_ways c a b d with ⟨q, E0⟩ | ⟨q, E0⟩ | ⟨q, E0⟩ | ⟨q, E0⟩ | ⟨q, E0⟩ | ⟨q, E0⟩
  all_goals
    rw [E0]
    have Q := Lib.hid q
    clear q E0
  · go_enter Try.func26, Try.ntmps26
    go_wp2_with (first
      | (go_at_call 25; (with_reducible refine (number_is Q.out (by decide) (by decide) _).mono ?_); rintro e w' ⟨rfl, rfl⟩))
    refine wp_region_up V (by kernel_rfl) (by kernel_rfl) ?_
    repeat (go_big_quiet_step (first
      | (go_at_call 25; exact same_class (number_any _ _ _ (by omega) (by omega)))
      | (go_at_call 14; exact up_class (pin_any c _ _))))
    refine wpQuiet_nil ?_
    rintro _ ⟨x, rfl⟩
    go_wp2
    go_ret
    exact ⟨rfl, Z.trans x.up⟩
  · go_enter Try.func26, Try.ntmps26
    go_wp2_with (first
      | (go_at_call 25; (with_reducible refine (number_is Q.out (by decide) (by decide) _).mono ?_); rintro e w' ⟨rfl, rfl⟩))
    refine wp_region_up V (by kernel_rfl) (by kernel_rfl) ?_
    repeat (go_big_quiet_step (first
      | (go_at_call 25; exact same_class (number_any _ _ _ (by omega) (by omega)))
      | (go_at_call 16; exact up_class (root_any c _ _))))
    refine wpQuiet_nil ?_
    rintro _ ⟨x, rfl⟩
    go_wp2
    go_ret
    exact ⟨rfl, Z.trans x.up⟩
  · go_enter Try.func26, Try.ntmps26
    go_wp2_with (first
      | (go_at_call 25; (with_reducible refine (number_is Q.out (by decide) (by decide) _).mono ?_); rintro e w' ⟨rfl, rfl⟩))
    refine wp_region_up V (by kernel_rfl) (by kernel_rfl) ?_
    repeat (go_big_quiet_step (first
      | (go_at_call 25; exact same_class (number_any _ _ _ (by omega) (by omega)))
      | (go_at_call 18; exact up_class (slot_any c _ _))))
    refine wpQuiet_nil ?_
    rintro _ ⟨x, rfl⟩
    go_wp2
    go_ret
    exact ⟨rfl, Z.trans x.up⟩
  · go_enter Try.func26, Try.ntmps26
    go_wp2_with (first
      | (go_at_call 25; (with_reducible refine (number_is Q.out (by decide) (by decide) _).mono ?_); rintro e w' ⟨rfl, rfl⟩))
    refine wp_region_up V (by kernel_rfl) (by kernel_rfl) ?_
    repeat (go_big_quiet_step (first
      | (go_at_call 25; exact same_class (number_any _ _ _ (by omega) (by omega)))
      | (go_at_call 20; exact up_class (link_any c _ _))))
    refine wpQuiet_nil ?_
    rintro _ ⟨x, rfl⟩
    go_wp2
    go_ret
    exact ⟨rfl, Z.trans x.up⟩
  · go_enter Try.func26, Try.ntmps26
    go_wp2_with (first
      | (go_at_call 25; (with_reducible refine (number_is Q.out (by decide) (by decide) _).mono ?_); rintro e w' ⟨rfl, rfl⟩))
    refine wp_region_up V (by kernel_rfl) (by kernel_rfl) ?_
    repeat (go_big_quiet_step (first
      | (go_at_call 25; exact same_class (number_any _ _ _ (by omega) (by omega)))
      | (go_at_call 22; exact up_class (word_any c _ _ _))))
    refine wpQuiet_nil ?_
    rintro _ ⟨x, rfl⟩
    go_wp2
    go_ret
    exact ⟨rfl, Z.trans x.up⟩
  · go_enter Try.func26, Try.ntmps26
    go_wp2_with (first
      | (go_at_call 25; (with_reducible refine (number_is Q.out (by decide) (by decide) _).mono ?_); rintro e w' ⟨rfl, rfl⟩)
      | (go_at_call 25; (with_reducible refine (number_any _ _ _ (by decide) (by decide)).mono ?_); rintro e w' ⟨rfl, rfl⟩))
    go_ret
    exact ⟨rfl, Z⟩
end Go.Proofs.Ytfimnhajokecbaa
