/-
  Configurations in memory; the contract of lay.May.
-/
import Derived.Test.YtfimnhajokecbaaNum
import Derived.Test.YtfimnhajokecbaaLayMath
import Derived.Test.YtfimnhajokecbaaBase
import Derived.Deep.RegionHeld3
namespace Go.Proofs.Ytfimnhajokecbaa
open Go.RowKit

/-- The configuration as the program has it. -/
abbrev Cf.v (c : Cf) : Value := .agg #[.int .i64 c.wk, .int .i64 c.ch, .int .i64 c.wo, .int .i64 c.sl, .int .i64 c.ca, .int .i64 c.ba]
/-- Its box in memory. -/
abbrev Cf.box (c : Cf) : Obj := .cells #[.int .i64 c.wk, .int .i64 c.ch, .int .i64 c.wo, .int .i64 c.sl, .int .i64 c.ca, .int .i64 c.ba] 23

/-- A configuration that lies in memory. -/
def Cf.At (c : Cf) (w : World) (b : Nat) : Prop :=
  w.cell? ⟨b, 0, none⟩ = some (.int .i64 c.wk) ∧ w.cell? ⟨b, 1, none⟩ = some (.int .i64 c.ch) ∧ w.cell? ⟨b, 2, none⟩ = some (.int .i64 c.wo) ∧
  w.cell? ⟨b, 3, none⟩ = some (.int .i64 c.sl) ∧ w.cell? ⟨b, 4, none⟩ = some (.int .i64 c.ca) ∧ w.cell? ⟨b, 5, none⟩ = some (.int .i64 c.ba)
theorem Cf.At.up {c : Cf} {w w' : World} {b : Nat} (h : c.At w b) (u : Up w w') : c.At w' b :=
  ⟨u.kept h.1, u.kept h.2.1, u.kept h.2.2.1, u.kept h.2.2.2.1, u.kept h.2.2.2.2.1, u.kept h.2.2.2.2.2⟩
theorem Cf.at_new (c : Cf) (w : World) : c.At (w.alloc c.box) w.heap.size :=
  ⟨cell_new rfl rfl, cell_new rfl rfl, cell_new rfl rfl, cell_new rfl rfl, cell_new rfl rfl, cell_new rfl rfl⟩
theorem Cf.At.with {c : Cf} {w w' : World} {b : Nat} (h : c.At w b) (u : Up w w') :
  w'.cell? ⟨b, 0, none⟩ = some (.int .i64 c.wk) ∧ w'.cell? ⟨b, 1, none⟩ = some (.int .i64 c.ch) ∧ w'.cell? ⟨b, 2, none⟩ = some (.int .i64 c.wo) ∧
  w'.cell? ⟨b, 3, none⟩ = some (.int .i64 c.sl) ∧ w'.cell? ⟨b, 4, none⟩ = some (.int .i64 c.ca) ∧ w'.cell? ⟨b, 5, none⟩ = some (.int .i64 c.ba) ∧ Up w w' := by
  obtain ⟨h0, h1, h2, h3, h4, h5⟩ := h.up u
  exact ⟨h0, h1, h2, h3, h4, h5, u⟩

set_option maxHeartbeats 400000 in
theorem from_any (a n b : Int) (w : World) :
    Calls Try.prog 32 #[.int .i64 a, .int .i64 n, .int .i64 b] w fun e w' => e = .returned (.bool (decide (a ≤ n ∧ n ≤ b))) ∧ w = w' := by
  go_enter Try.func32, Try.ntmps32
  go_wp2
  all_goals
    go_ret
    refine ⟨ret_bool ?_, rfl⟩
    simp [*]
  all_goals omega
theorem from_is {a n b : Int} {r : Bool} (e : decide (a ≤ n ∧ n ≤ b) = r) (w : World) :
    Calls Try.prog 32 #[.int .i64 a, .int .i64 n, .int .i64 b] w fun e w' => e = .returned (.bool r) ∧ w = w' := e ▸ from_any a n b w

set_option maxHeartbeats 2000000 in
theorem may_any (c : Cf) (w : World) :
    Calls Try.prog 10 #[c.v] w fun e w' => e = .returned (.bool (mayB c)) ∧ Up w w' := by
  have A := may_ways c
  obtain ⟨b1, f1⟩ : ∃ b, decide (1 ≤ c.wk ∧ c.wk ≤ 64) = b := ⟨_, rfl⟩
  obtain ⟨b2, f2⟩ : ∃ b, decide (1 ≤ c.ch ∧ c.ch ≤ 4096) = b := ⟨_, rfl⟩
  obtain ⟨b3, f3⟩ : ∃ b, decide (8 ≤ c.wo ∧ c.wo ≤ 1024) = b := ⟨_, rfl⟩
  obtain ⟨b4, f4⟩ : ∃ b, decide (1 ≤ c.sl ∧ c.sl ≤ 4096) = b := ⟨_, rfl⟩
  obtain ⟨b5, f5⟩ : ∃ b, decide (0 ≤ c.ca ∧ c.ca ≤ 64) = b := ⟨_, rfl⟩
  obtain ⟨b6, f6⟩ : ∃ b, decide (1 ≤ c.ba ∧ c.ba ≤ 8) = b := ⟨_, rfl⟩
  obtain ⟨r, fr⟩ : ∃ b, mayB c = b := ⟨_, rfl⟩
  rw [f1, f2, f3, f4, f5, f6, fr] at A
  rw [fr]
  have e1 := Lib.hid f1
  have e2 := Lib.hid f2
  have e3 := Lib.hid f3
  have e4 := Lib.hid f4
  have e5 := Lib.hid f5
  have e6 := Lib.hid f6
  clear f1 f2 f3 f4 f5 f6 fr
  rcases A with ⟨rfl, rfl⟩ | ⟨rfl, rfl, rfl⟩ | ⟨rfl, rfl, rfl, rfl⟩ | ⟨rfl, rfl, rfl, g0, g1, g2, rfl⟩ | ⟨rfl, rfl, rfl, g0, g1, g2, rfl, rfl⟩ | ⟨rfl, rfl, rfl, g0, g1, g2, rfl, rfl, rfl⟩ | ⟨rfl, rfl, rfl, g0, g1, g2, rfl, rfl, rfl⟩
  all_goals
    go_enter Try.func10, Try.ntmps10
    go_wp2_with (first
      | (go_at_call 32; (with_reducible refine (from_is e1.out _).mono ?_); rintro e w' ⟨rfl, rfl⟩)
      | (go_at_call 32; (with_reducible refine (from_is e2.out _).mono ?_); rintro e w' ⟨rfl, rfl⟩)
      | (go_at_call 32; (with_reducible refine (from_is e3.out _).mono ?_); rintro e w' ⟨rfl, rfl⟩)
      | (go_at_call 32; (with_reducible refine (from_is e4.out _).mono ?_); rintro e w' ⟨rfl, rfl⟩)
      | (go_at_call 32; (with_reducible refine (from_is e5.out _).mono ?_); rintro e w' ⟨rfl, rfl⟩)
      | (go_at_call 32; (with_reducible refine (from_is e6.out _).mono ?_); rintro e w' ⟨rfl, rfl⟩))
    go_ret
    exact ⟨rfl, Up.alloc _ _⟩

end Go.Proofs.Ytfimnhajokecbaa
