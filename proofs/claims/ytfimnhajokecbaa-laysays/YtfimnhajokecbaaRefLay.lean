/-
  The contracts of the document's own answers about cells (rundaleref1, P4.1, P4.2).
-/
import Derived.Test.YtfimnhajokecbaaLayWhat
namespace Go.Proofs.Ytfimnhajokecbaa
open Go.RowKit

set_option maxHeartbeats 400000 in
theorem in_any (v a b : Int) (w : World) :
    Calls Try.prog 33 #[.int .i64 v, .int .i64 a, .int .i64 b] w fun e w' => e = .returned (.bool (decide (a ≤ v ∧ v ≤ b))) ∧ w = w' := by
  go_enter Try.func33, Try.ntmps33
  go_wp2
  all_goals
    go_ret
    refine ⟨ret_bool ?_, rfl⟩
    simp [*]
  all_goals omega
theorem in_is {a n b : Int} {r : Bool} (e : decide (a ≤ n ∧ n ≤ b) = r) (w : World) :
    Calls Try.prog 33 #[.int .i64 n, .int .i64 a, .int .i64 b] w fun e w' => e = .returned (.bool r) ∧ w = w' := e ▸ in_any n a b w

set_option maxHeartbeats 2000000 in
theorem rmay_any (c : Cf) (w : World) :
    Calls Try.prog 11 #[c.v] w fun e w' => e = .returned (.bool (mayB c)) ∧ Up w w' := by
  have A := may_ways c
  obtain ⟨b1, f1⟩ : ∃ b, decide (1 ≤ c.wk ∧ c.wk ≤ 64) = b := ⟨_, rfl⟩
  obtain ⟨b2, f2⟩ : ∃ b, decide (1 ≤ c.ch ∧ c.ch ≤ 4096) = b := ⟨_, rfl⟩
  obtain ⟨b3, f3⟩ : ∃ b, decide (8 ≤ c.wo ∧ c.wo ≤ 1024) = b := ⟨_, rfl⟩
  obtain ⟨b4, f4⟩ : ∃ b, decide (1 ≤ c.sl ∧ c.sl ≤ 4096) = b := ⟨_, rfl⟩
  obtain ⟨b5, f5⟩ : ∃ b, decide (0 ≤ c.ca ∧ c.ca ≤ 64) = b := ⟨_, rfl⟩
  obtain ⟨b6, f6⟩ : ∃ b, decide (1 ≤ c.ba ∧ c.ba ≤ 8) = b := ⟨_, rfl⟩
  obtain ⟨r, fr⟩ : ∃ b, mayB c = b := ⟨_, rfl⟩
  rw [f1, f2, f3, f4, f5, f6, fr] at A
  rw [fr]
  have e1 := Lib.hid f1
  have e2 := Lib.hid f2
  have e3 := Lib.hid f3
  have e4 := Lib.hid f4
  have e5 := Lib.hid f5
  have e6 := Lib.hid f6
  clear f1 f2 f3 f4 f5 f6 fr
  rcases A with ⟨rfl, rfl⟩ | ⟨rfl, rfl, rfl⟩ | ⟨rfl, rfl, rfl, rfl⟩ | ⟨rfl, rfl, rfl, g0, g1, g2, rfl⟩ | ⟨rfl, rfl, rfl, g0, g1, g2, rfl, rfl⟩ | ⟨rfl, rfl, rfl, g0, g1, g2, rfl, rfl, rfl⟩ | ⟨rfl, rfl, rfl, g0, g1, g2, rfl, rfl, rfl⟩
  all_goals
    go_enter Try.func11, Try.ntmps11
    go_wp2_with (first
      | (go_at_call 33; (with_reducible refine (in_is e1.out _).mono ?_); rintro e w' ⟨rfl, rfl⟩)
      | (go_at_call 33; (with_reducible refine (in_is e2.out _).mono ?_); rintro e w' ⟨rfl, rfl⟩)
      | (go_at_call 33; (with_reducible refine (in_is e3.out _).mono ?_); rintro e w' ⟨rfl, rfl⟩)
      | (go_at_call 33; (with_reducible refine (in_is e4.out _).mono ?_); rintro e w' ⟨rfl, rfl⟩)
      | (go_at_call 33; (with_reducible refine (in_is e5.out _).mono ?_); rintro e w' ⟨rfl, rfl⟩)
      | (go_at_call 33; (with_reducible refine (in_is e6.out _).mono ?_); rintro e w' ⟨rfl, rfl⟩))
    go_ret
    exact ⟨rfl, Up.alloc _ _⟩


set_option maxHeartbeats 1000000 in
theorem rlen_any (c : Cf) (w : World) :
    Calls Try.prog 13 #[c.v] w fun e w' => e = .returned (.int .i64 (lenN c)) ∧ Up w w' := by
  have hat := c.at_new w
  cases hm : mayB c
  · rw [lenN_no hm]
    have H := Lib.hid hm
    clear hm
    go_enter Try.func13, Try.ntmps13
    go_wp2_with (go_at_call 11; refine (rmay_any c _).mono ?_; rw [H.out]; rintro e wA ⟨rfl, uA⟩)
    go_ret
    exact ⟨rfl, (Up.alloc _ _).trans uA⟩
  · rw [lenN_is hm]
    have H := Lib.hid hm
    obtain ⟨⟨_, _⟩, ⟨_, m1⟩, ⟨_, n1⟩, ⟨_, _⟩, ⟨f0, f1⟩, ⟨_, _⟩⟩ := may_small hm
    have s1 : IntKind.i64.wrap (c.ch * c.wo) = c.ch * c.wo := wrap_in (by omega) (by omega)
    have s2 : IntKind.i64.wrap (3 + c.wk + 2 * c.sl + c.ch + c.ch * c.wo) = 3 + c.wk + 2 * c.sl + c.ch + c.ch * c.wo := wrap_in (by omega) (by omega)
    clear hm
    go_enter Try.func13, Try.ntmps13
    go_wp2_with (go_at_call 11; refine (rmay_any c _).mono ?_; rw [H.out]; rintro e wA ⟨rfl, uA⟩; obtain ⟨h0, h1, h2, h3, h4, h5⟩ := hat.up uA)
    go_ret
    exact ⟨ret_int (by unfold fwN; rfl), (Up.alloc _ _).trans uA⟩

set_option maxHeartbeats 1000000 in
theorem rat_any (c : Cf) (f m i : Int) (w : World) (h : mayB c = true → (0 ≤ f ∧ f ≤ 100000000) ∧ (0 ≤ m ∧ m ≤ 100000000)) :
    Calls Try.prog 35 #[c.v, .int .i64 f, .int .i64 m, .int .i64 i] w fun e w' => e = .returned (.int .i64 (atN c f m i)) ∧ Up w w' := by
  cases hm : mayB c
  · rw [atN_no (.inl hm)]
    have H := Lib.hid hm
    clear hm h
    go_enter Try.func35, Try.ntmps35
    go_wp2_with (go_at_call 11; refine (rmay_any c _).mono ?_; rw [H.out]; rintro e wA ⟨rfl, uA⟩)
    go_ret
    exact ⟨rfl, (Up.alloc _ _).trans uA⟩
  · obtain ⟨⟨f0, f1⟩, m0, m1⟩ := h hm
    have H := Lib.hid hm
    by_cases hi : 0 ≤ i ∧ i < m
    · obtain ⟨i0, i1⟩ := hi
      rw [atN_is hm i0 i1]
      clear hm h
      go_enter Try.func35, Try.ntmps35
      go_wp2_with (go_at_call 11; refine (rmay_any c _).mono ?_; rw [H.out]; rintro e wA ⟨rfl, uA⟩)
      go_ret
      exact ⟨rfl, (Up.alloc _ _).trans uA⟩
    · rw [atN_no (.inr hi)]
      clear hm h
      rcases (show i < 0 ∨ (0 ≤ i ∧ m ≤ i) by omega) with hj | ⟨hj, hk⟩
      all_goals
        clear hi
        go_enter Try.func35, Try.ntmps35
        go_wp2_with (go_at_call 11; refine (rmay_any c _).mono ?_; rw [H.out]; rintro e wA ⟨rfl, uA⟩)
        go_ret
        exact ⟨rfl, (Up.alloc _ _).trans uA⟩
theorem rat_no (c : Cf) (f m i : Int) (w : World) (h : mayB c = false) :
    Calls Try.prog 35 #[c.v, .int .i64 f, .int .i64 m, .int .i64 i] w fun e w' => e = .returned (.int .i64 (-1)) ∧ Up w w' := by
  have k := rat_any c f m i w (fun hm => by rw [h] at hm; cases hm)
  rw [atN_no (.inl h)] at k
  exact k

set_option maxHeartbeats 1000000 in
theorem rpin_any (c : Cf) (i : Int) (w : World) :
    Calls Try.prog 15 #[c.v, .int .i64 i] w fun e w' => e = .returned (.int .i64 (pinN c i)) ∧ Up w w' := by
  have hat := c.at_new w
  cases hm : mayB c
  · unfold pinN
    rw [atN_no (.inl hm)]
    have H := Lib.hid hm
    clear hm
    go_enter Try.func15, Try.ntmps15
    go_wp2_with (go_at_call 35; refine (rat_no c _ _ _ _ H.out).mono ?_; rintro e wA ⟨rfl, uA⟩)
    go_ret
    exact ⟨rfl, (Up.alloc _ _).trans uA⟩
  · obtain ⟨⟨_, _⟩, ⟨_, _⟩, ⟨_, _⟩, ⟨_, _⟩, _⟩ := may_small hm
    have B' := Lib.hid (show mayB c = true → (0 ≤ (3 : Int) ∧ (3 : Int) ≤ 100000000) ∧ (0 ≤ c.wk ∧ c.wk ≤ 100000000) from fun _ => by omega)
    clear hm
    go_enter Try.func15, Try.ntmps15
    go_wp2_with (go_at_call 35; refine (rat_any c _ _ _ _ B'.out).mono ?_; rintro e wA ⟨rfl, uA⟩)
    go_ret
    exact ⟨rfl, (Up.alloc _ _).trans uA⟩

set_option maxHeartbeats 1000000 in
theorem rroot_any (c : Cf) (i : Int) (w : World) :
    Calls Try.prog 17 #[c.v, .int .i64 i] w fun e w' => e = .returned (.int .i64 (rootN c i)) ∧ Up w w' := by
  have hat := c.at_new w
  cases hm : mayB c
  · unfold rootN
    rw [atN_no (.inl hm)]
    have H := Lib.hid hm
    clear hm
    go_enter Try.func17, Try.ntmps17
    go_wp2_with (go_at_call 35; refine (rat_no c _ _ _ _ H.out).mono ?_; rintro e wA ⟨rfl, uA⟩)
    go_ret
    exact ⟨rfl, (Up.alloc _ _).trans uA⟩
  · obtain ⟨⟨_, _⟩, ⟨_, _⟩, ⟨_, _⟩, ⟨_, _⟩, _⟩ := may_small hm
    have B' := Lib.hid (show mayB c = true → (0 ≤ (3 + c.wk) ∧ (3 + c.wk) ≤ 100000000) ∧ (0 ≤ c.sl ∧ c.sl ≤ 100000000) from fun _ => by omega)
    clear hm
    go_enter Try.func17, Try.ntmps17
    go_wp2_with (go_at_call 35; refine (rat_any c _ _ _ _ B'.out).mono ?_; rintro e wA ⟨rfl, uA⟩)
    go_ret
    exact ⟨rfl, (Up.alloc _ _).trans uA⟩

set_option maxHeartbeats 1000000 in
theorem rslot_any (c : Cf) (i : Int) (w : World) :
    Calls Try.prog 19 #[c.v, .int .i64 i] w fun e w' => e = .returned (.int .i64 (slotN c i)) ∧ Up w w' := by
  have hat := c.at_new w
  cases hm : mayB c
  · unfold slotN
    rw [atN_no (.inl hm)]
    have H := Lib.hid hm
    clear hm
    go_enter Try.func19, Try.ntmps19
    go_wp2_with (go_at_call 35; refine (rat_no c _ _ _ _ H.out).mono ?_; rintro e wA ⟨rfl, uA⟩)
    go_ret
    exact ⟨rfl, (Up.alloc _ _).trans uA⟩
  · obtain ⟨⟨_, _⟩, ⟨_, _⟩, ⟨_, _⟩, ⟨_, _⟩, _⟩ := may_small hm
    have B' := Lib.hid (show mayB c = true → (0 ≤ (3 + c.wk + c.sl) ∧ (3 + c.wk + c.sl) ≤ 100000000) ∧ (0 ≤ c.sl ∧ c.sl ≤ 100000000) from fun _ => by omega)
    clear hm
    go_enter Try.func19, Try.ntmps19
    go_wp2_with (go_at_call 35; refine (rat_any c _ _ _ _ B'.out).mono ?_; rintro e wA ⟨rfl, uA⟩)
    go_ret
    exact ⟨rfl, (Up.alloc _ _).trans uA⟩

set_option maxHeartbeats 1000000 in
theorem rlink_any (c : Cf) (i : Int) (w : World) :
    Calls Try.prog 21 #[c.v, .int .i64 i] w fun e w' => e = .returned (.int .i64 (linkN c i)) ∧ Up w w' := by
  have hat := c.at_new w
  cases hm : mayB c
  · unfold linkN
    rw [atN_no (.inl hm)]
    have H := Lib.hid hm
    clear hm
    go_enter Try.func21, Try.ntmps21
    go_wp2_with (go_at_call 35; refine (rat_no c _ _ _ _ H.out).mono ?_; rintro e wA ⟨rfl, uA⟩)
    go_ret
    exact ⟨rfl, (Up.alloc _ _).trans uA⟩
  · obtain ⟨⟨_, _⟩, ⟨_, _⟩, ⟨_, _⟩, ⟨_, _⟩, _⟩ := may_small hm
    have B' := Lib.hid (show mayB c = true → (0 ≤ (3 + c.wk + 2 * c.sl) ∧ (3 + c.wk + 2 * c.sl) ≤ 100000000) ∧ (0 ≤ c.ch ∧ c.ch ≤ 100000000) from fun _ => by omega)
    clear hm
    go_enter Try.func21, Try.ntmps21
    go_wp2_with (go_at_call 35; refine (rat_any c _ _ _ _ B'.out).mono ?_; rintro e wA ⟨rfl, uA⟩)
    go_ret
    exact ⟨rfl, (Up.alloc _ _).trans uA⟩

set_option maxHeartbeats 2000000 in
theorem rword_any (c : Cf) (k i : Int) (w : World) :
    Calls Try.prog 23 #[c.v, .int .i64 k, .int .i64 i] w fun e w' => e = .returned (.int .i64 (wordN c k i)) ∧ Up w w' := by
  have hat := c.at_new w
  rcases word_ways c k i with ⟨hm, E⟩ | ⟨hm, q1, E⟩ | ⟨hm, q1, q2, E⟩ | ⟨hm, q1, q2, E⟩
  · rw [E]
    have H := Lib.hid hm
    clear hm E
    go_enter Try.func23, Try.ntmps23
    go_wp2_with (go_at_call 11; refine (rmay_any c _).mono ?_; rw [H.out]; rintro e wA ⟨rfl, uA⟩)
    go_ret
    exact ⟨rfl, (Up.alloc _ _).trans uA⟩
  · rw [E]
    have H := Lib.hid hm
    clear hm E
    rcases (show k < 0 ∨ (0 ≤ k ∧ c.ch ≤ k) by omega) with hj | ⟨hj, hk⟩
    all_goals
      clear q1
      go_enter Try.func23, Try.ntmps23
      go_wp2_with (go_at_call 11; refine (rmay_any c _).mono ?_; rw [H.out]; rintro e wA ⟨rfl, uA⟩; obtain ⟨h0, h1, h2, h3, h4, h5⟩ := hat.up uA)
      go_ret
      exact ⟨rfl, (Up.alloc _ _).trans uA⟩
  · rw [E]
    have H := Lib.hid hm
    clear hm E
    obtain ⟨k0, k1⟩ := q1
    rcases (show i < 0 ∨ (0 ≤ i ∧ c.wo ≤ i) by omega) with hj | ⟨hj, hk⟩
    all_goals
      clear q2
      go_enter Try.func23, Try.ntmps23
      go_wp2_with (go_at_call 11; refine (rmay_any c _).mono ?_; rw [H.out]; rintro e wA ⟨rfl, uA⟩; obtain ⟨h0, h1, h2, h3, h4, h5⟩ := hat.up uA)
      go_ret
      exact ⟨rfl, (Up.alloc _ _).trans uA⟩
  · rw [E]
    obtain ⟨⟨_, _⟩, ⟨_, m1⟩, ⟨_, n1⟩, ⟨_, _⟩, ⟨f0, f1⟩, _⟩ := may_small hm
    obtain ⟨p0, p1⟩ := mul_in (a := k) (b := c.wo) (A := 4096) (B := 1024) (by omega) (by omega) (by omega) (by omega)
    have s1 : IntKind.i64.wrap (k * c.wo) = k * c.wo := wrap_in (by omega) (by omega)
    have s2 : IntKind.i64.wrap (3 + c.wk + 2 * c.sl + c.ch + k * c.wo) = 3 + c.wk + 2 * c.sl + c.ch + k * c.wo := wrap_in (by omega) (by omega)
    have s3 : IntKind.i64.wrap (3 + c.wk + 2 * c.sl + c.ch + k * c.wo + i) = 3 + c.wk + 2 * c.sl + c.ch + k * c.wo + i := wrap_in (by omega) (by omega)
    have H := Lib.hid hm
    clear hm E
    obtain ⟨k0, k1⟩ := q1
    obtain ⟨i0, i1⟩ := q2
    go_enter Try.func23, Try.ntmps23
    go_wp2_with (go_at_call 11; refine (rmay_any c _).mono ?_; rw [H.out]; rintro e wA ⟨rfl, uA⟩; obtain ⟨h0, h1, h2, h3, h4, h5⟩ := hat.up uA)
    go_ret
    exact ⟨ret_int (by unfold fwN; rfl), (Up.alloc _ _).trans uA⟩

theorem ret_what' {t : Int × Int × Int} {a b d a' b' d' : Int} (h : t = (a, b, d)) (ha : a' = a) (hb : b' = b) (hd : d' = d) : Ending.returned (.tuple #[.int .i64 a', .int .i64 b', .int .i64 d']) = .returned (whatV t) := by subst h ha hb hd; rfl

set_option maxHeartbeats 4000000 in
theorem rwhat_any (c : Cf) (x : Int) (w : World) :
    Calls Try.prog 9 #[c.v, .int .i64 x] w fun e w' => e = .returned (whatV (whatT c x)) ∧ Up w w' := by
  have hat := c.at_new w
  rcases what_ways c x with ⟨q0, E⟩ | ⟨q0, q1, E⟩ | ⟨q0, q1, hm, A⟩
  · have E' := Lib.hid E
    clear E
    go_enter Try.func9, Try.ntmps9
    go_wp2
    go_ret3
    exact ⟨ret_what E'.out, Up.alloc _ _⟩
  · have E' := Lib.hid E
    clear E
    go_enter Try.func9, Try.ntmps9
    go_wp2_with (go_at_call 13; refine (rlen_any c _).mono ?_; rintro e wA ⟨rfl, uA⟩)
    go_ret3
    exact ⟨ret_what E'.out, (Up.alloc _ _).trans uA⟩
  · obtain ⟨⟨_, _⟩, ⟨_, m1⟩, ⟨_, n1⟩, ⟨_, _⟩, ⟨f0, f1⟩, _⟩ := may_small hm
    obtain ⟨l0, l1⟩ := lenN_small hm
    have fd : fwN c = 3 + c.wk + 2 * c.sl + c.ch := rfl
    rcases A with ⟨x0, E⟩ | ⟨rfl, E⟩ | ⟨x0, x1, E⟩ | ⟨x0, x1, E⟩ | ⟨x0, x1, E⟩ | ⟨x0, x1, E⟩ | ⟨x0, E⟩
    all_goals
      have E' := Lib.hid E
      clear E hm
    iterate 6
      focus
        go_enter Try.func9, Try.ntmps9
        go_wp2_with (go_at_call 13; refine (rlen_any c _).mono ?_; rintro e wA ⟨rfl, uA⟩; obtain ⟨h0, h1, h2, h3, h4, h5⟩ := hat.up uA)
        go_ret3
        exact ⟨ret_what' E'.out rfl (by omega) rfl, (Up.alloc _ _).trans uA⟩
    have xe : x - 3 - c.wk - c.sl - c.sl - c.ch = x - fwN c := by omega
    go_enter Try.func9, Try.ntmps9
    go_wp2_with (go_at_call 13; refine (rlen_any c _).mono ?_; rintro e wA ⟨rfl, uA⟩; obtain ⟨h0, h1, h2, h3, h4, h5⟩ := hat.up uA)
    have b0 : 0 ≤ x - fwN c := by omega
    go_quiet (fail)
    go_wp2
    go_ret3
    exact ⟨ret_what E'.out, (Up.alloc _ _).trans (uA.then_drewN _)⟩
end Go.Proofs.Ytfimnhajokecbaa
