/-
  What the statements of layer 4 share: the call of 'first'.
-/
import Derived.Test.YtfimnhajokecbaaLayWhat
namespace Go.Proofs.Ytfimnhajokecbaa
open Go.RowKit

/-- The chapter's example's configuration. -/
abbrev smallC : Cf := ⟨2, 4, 8, 3, 0, 1⟩
set_option maxHeartbeats 800000 in
theorem small_any (w : World) :
    Calls Try.prog 27 #[] w fun e w' => e = .returned smallC.v ∧ Up w w' := by
  go_enter Try.func27, Try.ntmps27
  go_wp2
  exact bodyPost_ret (v := smallC.v) (by simp [results, Try.results27, go_sem]) rfl ⟨rfl, Up.alloc _ _⟩

theorem e1 : rootN smallC 0 = 5 := by decide
theorem e2 : wordN smallC 1 0 = 23 := by decide
theorem e3 : lenN smallC = 47 := by decide
theorem e4 : mayB smallC = true := by decide
theorem e5 : pinN smallC 1 = 4 := by decide
theorem e6 : slotN smallC 0 = 8 := by decide
theorem e7 : linkN smallC 0 = 11 := by decide

set_option maxHeartbeats 2000000 in
theorem first_any (w : World) :
    Calls Try.prog 7 #[] w fun e w' => e = .returned (.bool true) ∧ Up w w' := by
  go_enter Try.func7, Try.ntmps7
  go_wp2_with (first
    | (go_at_call 27; refine (small_any _).mono ?_; rintro e wA ⟨rfl, uA⟩; have hat := smallC.at_new wA; have V := Up.refl (wA.alloc smallC.box))
    | (go_at_call 16; refine (calls_up V (root_any smallC _ _)).mono ?_; rw [e1]; rintro e wB ⟨rfl, uB⟩; replace V := uB; obtain ⟨h0, h1, h2, h3, h4, h5⟩ := hat.up uB)
    | (go_at_call 22; refine (calls_up V (word_any smallC _ _ _)).mono ?_; rw [e2]; rintro e wB ⟨rfl, uB⟩; replace V := uB; obtain ⟨h0, h1, h2, h3, h4, h5⟩ := hat.up uB)
    | (go_at_call 12; refine (calls_up V (len_any smallC _)).mono ?_; rw [e3]; rintro e wB ⟨rfl, uB⟩; replace V := uB; obtain ⟨h0, h1, h2, h3, h4, h5⟩ := hat.up uB)
    | (go_at_call 10; refine (calls_up V (may_any smallC _)).mono ?_; rw [e4]; rintro e wB ⟨rfl, uB⟩; replace V := uB; obtain ⟨h0, h1, h2, h3, h4, h5⟩ := hat.up uB)
    | (go_at_call 14; refine (calls_up V (pin_any smallC _ _)).mono ?_; rw [e5]; rintro e wB ⟨rfl, uB⟩; replace V := uB; obtain ⟨h0, h1, h2, h3, h4, h5⟩ := hat.up uB)
    | (go_at_call 18; refine (calls_up V (slot_any smallC _ _)).mono ?_; rw [e6]; rintro e wB ⟨rfl, uB⟩; replace V := uB; obtain ⟨h0, h1, h2, h3, h4, h5⟩ := hat.up uB)
    | (go_at_call 20; refine (calls_up V (link_any smallC _ _)).mono ?_; rw [e7]; rintro e wB ⟨rfl, uB⟩; replace V := uB; obtain ⟨h0, h1, h2, h3, h4, h5⟩ := hat.up uB))
  go_ret
  exact ⟨rfl, uA.trans ((Up.alloc _ _).trans V)⟩

/-- The same contracts, the answer told by an equation. -/
theorem what_is {c : Cf} {x a b d : Int} (e : whatT c x = (a, b, d)) (w : World) :
    Calls Try.prog 8 #[c.v, .int .i64 x] w fun e w' => e = .returned (.tuple #[.int .i64 a, .int .i64 b, .int .i64 d]) ∧ Up w w' := by
  have h := what_any c x w
  rw [e] at h
  exact h
theorem len_is {c : Cf} {r : Int} (e : lenN c = r) (w : World) :
    Calls Try.prog 12 #[c.v] w fun e w' => e = .returned (.int .i64 r) ∧ Up w w' := e ▸ len_any c w
theorem may_is {c : Cf} {r : Bool} (e : mayB c = r) (w : World) :
    Calls Try.prog 10 #[c.v] w fun e w' => e = .returned (.bool r) ∧ Up w w' := e ▸ may_any c w
theorem pin_is {c : Cf} {i r : Int} (e : pinN c i = r) (w : World) :
    Calls Try.prog 14 #[c.v, .int .i64 i] w fun e w' => e = .returned (.int .i64 r) ∧ Up w w' := e ▸ pin_any c i w
theorem root_is {c : Cf} {i r : Int} (e : rootN c i = r) (w : World) :
    Calls Try.prog 16 #[c.v, .int .i64 i] w fun e w' => e = .returned (.int .i64 r) ∧ Up w w' := e ▸ root_any c i w
theorem slot_is {c : Cf} {i r : Int} (e : slotN c i = r) (w : World) :
    Calls Try.prog 18 #[c.v, .int .i64 i] w fun e w' => e = .returned (.int .i64 r) ∧ Up w w' := e ▸ slot_any c i w
theorem link_is {c : Cf} {i r : Int} (e : linkN c i = r) (w : World) :
    Calls Try.prog 20 #[c.v, .int .i64 i] w fun e w' => e = .returned (.int .i64 r) ∧ Up w w' := e ▸ link_any c i w
theorem word_is {c : Cf} {k i r : Int} (e : wordN c k i = r) (w : World) :
    Calls Try.prog 22 #[c.v, .int .i64 k, .int .i64 i] w fun e w' => e = .returned (.int .i64 r) ∧ Up w w' := e ▸ word_any c k i w
end Go.Proofs.Ytfimnhajokecbaa
