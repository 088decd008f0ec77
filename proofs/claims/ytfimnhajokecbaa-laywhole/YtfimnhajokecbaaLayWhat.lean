/-
  The contracts of package lay: a word's cell; what a cell is.
-/
import Derived.Test.YtfimnhajokecbaaLay
import Derived.OwnWalk
namespace Go.Proofs.Ytfimnhajokecbaa
open Go.RowKit

set_option maxHeartbeats 2000000 in
theorem word_any (c : Cf) (k i : Int) (w : World) :
    Calls Try.prog 22 #[c.v, .int .i64 k, .int .i64 i] w fun e w' => e = .returned (.int .i64 (wordN c k i)) ∧ Up w w' := by
  have hat := c.at_new w
  rcases word_ways c k i with ⟨hm, E⟩ | ⟨hm, q1, E⟩ | ⟨hm, q1, q2, E⟩ | ⟨hm, q1, q2, E⟩
  · rw [E]
    have H := Lib.hid hm
    clear hm E
    go_enter Try.func22, Try.ntmps22
    go_wp2_with (go_at_call 10; refine (may_any c _).mono ?_; rw [H.out]; rintro e wA ⟨rfl, uA⟩)
    go_ret
    exact ⟨rfl, (Up.alloc _ _).trans uA⟩
  · rw [E]
    obtain ⟨⟨_, _⟩, ⟨_, _⟩, ⟨_, _⟩, _⟩ := may_small hm
    have H := Lib.hid hm
    have E1 := Lib.hid (dec_no q1)
    clear hm E q1
    go_enter Try.func22, Try.ntmps22
    go_wp2_with (first
      | (go_at_call 10; refine (may_any c _).mono ?_; rw [H.out]; rintro e wA ⟨rfl, uA⟩; obtain ⟨h0, h1, h2, h3, h4, h5⟩ := hat.up uA)
      | (go_at_call 32; (with_reducible refine (from_is E1.out _).mono ?_); rintro e w' ⟨rfl, rfl⟩))
    go_ret
    exact ⟨rfl, (Up.alloc _ _).trans uA⟩
  · rw [E]
    obtain ⟨⟨_, _⟩, ⟨_, _⟩, ⟨_, _⟩, _⟩ := may_small hm
    have H := Lib.hid hm
    have E1 := Lib.hid (dec_yes q1)
    have E2 := Lib.hid (dec_no q2)
    clear hm E q1 q2
    go_enter Try.func22, Try.ntmps22
    go_wp2_with (first
      | (go_at_call 10; refine (may_any c _).mono ?_; rw [H.out]; rintro e wA ⟨rfl, uA⟩; obtain ⟨h0, h1, h2, h3, h4, h5⟩ := hat.up uA)
      | (go_at_call 32; (with_reducible refine (from_is E1.out _).mono ?_); rintro e w' ⟨rfl, rfl⟩)
      | (go_at_call 32; (with_reducible refine (from_is E2.out _).mono ?_); rintro e w' ⟨rfl, rfl⟩))
    go_ret
    exact ⟨rfl, (Up.alloc _ _).trans uA⟩
  · rw [E]
    obtain ⟨⟨_, _⟩, ⟨_, m1⟩, ⟨_, n1⟩, _, ⟨f0, f1⟩, _⟩ := may_small hm
    obtain ⟨p0, p1⟩ := mul_in (a := k) (b := c.wo) (A := 4096) (B := 1024) (by omega) (by omega) (by omega) (by omega)
    have s1 : IntKind.i64.wrap (k * c.wo) = k * c.wo := wrap_in (by omega) (by omega)
    have s2 : IntKind.i64.wrap (fwN c + k * c.wo) = fwN c + k * c.wo := wrap_in (by omega) (by omega)
    have s3 : IntKind.i64.wrap (fwN c + k * c.wo + i) = fwN c + k * c.wo + i := wrap_in (by omega) (by omega)
    have H := Lib.hid hm
    have F := Lib.hid (fwV_is hm)
    have E1 := Lib.hid (dec_yes q1)
    have E2 := Lib.hid (dec_yes q2)
    clear hm E q1 q2
    go_enter Try.func22, Try.ntmps22
    go_wp2_with (first
      | (go_at_call 10; refine (may_any c _).mono ?_; rw [H.out]; rintro e wA ⟨rfl, uA⟩; replace hat := hat.up uA; obtain ⟨h0, h1, h2, h3, h4, h5⟩ := id hat)
      | (go_at_call 32; (with_reducible refine (from_is E1.out _).mono ?_); rintro e w' ⟨rfl, rfl⟩)
      | (go_at_call 32; (with_reducible refine (from_is E2.out _).mono ?_); rintro e w' ⟨rfl, rfl⟩))
    go_region_held3 (fun w' => w'.cell? ⟨w.heap.size, 0, none⟩ = some (.int .i64 c.wk) ∧ w'.cell? ⟨w.heap.size, 1, none⟩ = some (.int .i64 c.ch) ∧ w'.cell? ⟨w.heap.size, 2, none⟩ = some (.int .i64 c.wo) ∧ w'.cell? ⟨w.heap.size, 3, none⟩ = some (.int .i64 c.sl) ∧ w'.cell? ⟨w.heap.size, 4, none⟩ = some (.int .i64 c.ca) ∧ w'.cell? ⟨w.heap.size, 5, none⟩ = some (.int .i64 c.ba) ∧ Up wA w')
      (first | exact hat.with (up_drew _) | exact hat.with (by assumption))
      (first
        | (go_at_call 31; refine (calls_up (up_drew _) (firstWord_any c _)).mono ?_; rw [F.out]; rintro e wB ⟨rfl, uB⟩))
    all_goals
      go_wp2
      go_ret
      exact ⟨rfl, (Up.alloc _ _).trans (uA.trans uB)⟩

/-- What's answer. -/
abbrev whatV (t : Int × Int × Int) : Value := .tuple #[.int .i64 t.1, .int .i64 t.2.1, .int .i64 t.2.2]
theorem ret_what {t : Int × Int × Int} {a b d : Int} (h : t = (a, b, d)) : Ending.returned (.tuple #[.int .i64 a, .int .i64 b, .int .i64 d]) = .returned (whatV t) := by subst h; rfl

set_option maxHeartbeats 4000000 in
theorem what_any (c : Cf) (x : Int) (w : World) :
    Calls Try.prog 8 #[c.v, .int .i64 x] w fun e w' => e = .returned (whatV (whatT c x)) ∧ Up w w' := by
  have hat := c.at_new w
  rcases what_ways c x with ⟨q0, E⟩ | ⟨q0, q1, E⟩ | ⟨q0, q1, hm, A⟩
  · have E' := Lib.hid E
    clear E
    go_enter Try.func8, Try.ntmps8
    go_wp2
    go_ret3
    exact ⟨ret_what E'.out, Up.alloc _ _⟩
  · have E' := Lib.hid E
    clear E
    go_enter Try.func8, Try.ntmps8
    go_wp2_with (go_at_call 12; refine (len_any c _).mono ?_; rintro e wA ⟨rfl, uA⟩)
    go_ret3
    exact ⟨ret_what E'.out, (Up.alloc _ _).trans uA⟩
  · obtain ⟨⟨_, _⟩, ⟨_, m1⟩, ⟨_, n1⟩, _, ⟨f0, f1⟩, _⟩ := may_small hm
    obtain ⟨l0, l1⟩ := lenN_small hm
    have E1 := Lib.hid (frV_is hm)
    have E2 := Lib.hid (fsV_is hm)
    have E3 := Lib.hid (flV_is hm)
    have E4 := Lib.hid (fwV_is hm)
    have fd : fwN c = 3 + c.wk + 2 * c.sl + c.ch := rfl
    have V := Up.refl (w.alloc c.box)
    rcases A with ⟨x0, E⟩ | ⟨rfl, E⟩ | ⟨x0, x1, E⟩ | ⟨x0, x1, E⟩ | ⟨x0, x1, E⟩ | ⟨x0, x1, E⟩ | ⟨x0, E⟩
    all_goals
      have E' := Lib.hid E
      clear E hm
    iterate 6
      focus
        go_enter Try.func8, Try.ntmps8
        go_wp2_with (first
          | (go_at_call 12; refine (calls_up V (len_any c _)).mono ?_; rintro e wA ⟨rfl, uA⟩; replace V := uA; obtain ⟨h0, h1, h2, h3, h4, h5⟩ := hat.up uA)
          | (go_at_call 28; refine (calls_up V (firstRoot_any c _)).mono ?_; rw [E1.out]; rintro e wA ⟨rfl, uA⟩; replace V := uA; obtain ⟨h0, h1, h2, h3, h4, h5⟩ := hat.up uA)
          | (go_at_call 29; refine (calls_up V (firstSlot_any c _)).mono ?_; rw [E2.out]; rintro e wA ⟨rfl, uA⟩; replace V := uA; obtain ⟨h0, h1, h2, h3, h4, h5⟩ := hat.up uA)
          | (go_at_call 30; refine (calls_up V (firstLink_any c _)).mono ?_; rw [E3.out]; rintro e wA ⟨rfl, uA⟩; replace V := uA; obtain ⟨h0, h1, h2, h3, h4, h5⟩ := hat.up uA)
          | (go_at_call 31; refine (calls_up V (firstWord_any c _)).mono ?_; rw [E4.out]; rintro e wA ⟨rfl, uA⟩; replace V := uA; obtain ⟨h0, h1, h2, h3, h4, h5⟩ := hat.up uA))
        go_ret3
        exact ⟨ret_what E'.out, (Up.alloc _ _).trans V⟩
    go_enter Try.func8, Try.ntmps8
    go_wp2_with (first
      | (go_at_call 12; refine (calls_up V (len_any c _)).mono ?_; rintro e wA ⟨rfl, uA⟩; replace V := uA; obtain ⟨h0, h1, h2, h3, h4, h5⟩ := hat.up uA)
      | (go_at_call 28; refine (calls_up V (firstRoot_any c _)).mono ?_; rw [E1.out]; rintro e wA ⟨rfl, uA⟩; replace V := uA; obtain ⟨h0, h1, h2, h3, h4, h5⟩ := hat.up uA)
      | (go_at_call 29; refine (calls_up V (firstSlot_any c _)).mono ?_; rw [E2.out]; rintro e wA ⟨rfl, uA⟩; replace V := uA; obtain ⟨h0, h1, h2, h3, h4, h5⟩ := hat.up uA)
      | (go_at_call 30; refine (calls_up V (firstLink_any c _)).mono ?_; rw [E3.out]; rintro e wA ⟨rfl, uA⟩; replace V := uA; obtain ⟨h0, h1, h2, h3, h4, h5⟩ := hat.up uA)
      | (go_at_call 31; refine (calls_up V (firstWord_any c _)).mono ?_; rw [E4.out]; rintro e wA ⟨rfl, uA⟩; replace V := uA; obtain ⟨h0, h1, h2, h3, h4, h5⟩ := hat.up uA))
    have b0 : 0 ≤ x - fwN c := by omega
    go_quiet (fail)
    go_wp2
    go_ret3
    exact ⟨ret_what E'.out, (Up.alloc _ _).trans (V.then_drewN _)⟩
end Go.Proofs.Ytfimnhajokecbaa
